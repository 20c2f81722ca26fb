import Derived.Test.YtpfmlfcaadnnpaaGreatDoorPg01
import Derived.Laws.Rows
import Derived.LaidLaws
import Derived.ChangeArms
import Derived.Lib.LaidTab
import Derived.Laws.EntriesVeiled
set_option maxHeartbeats 16000000
set_option maxRecDepth 100000
open Go.Proofs.Tryz(prog)
namespace Go.Proofs.YtpfmlfcaadnnpaaGreatDoor.Lx
open Go.RowKit
def numTo (l:List UInt8) (a:Nat):Nat:=a+numN (l.drop a)
theorem head_drop (l:List UInt8) (k:Nat):(l.drop k).head?=l[k]?:=by rw[List.head?_drop]
theorem numTo_end {l:List UInt8} {a:Nat} (h:l[runTo isDig l a]?≠some 46):numTo l a=runTo isDig l a:=by
 unfold numTo numN
 rw[List.drop_drop,←runTo_dig,head_drop,if_neg (fun hh=>h hh.1)]
 exact(runTo_dig l a).symm
theorem numTo_dot {l:List UInt8} {a:Nat} (h:l[runTo isDig l a]?=some 46):numTo l a=if runTo isDig l a+1<runTo isDig l (runTo isDig l a+1) then runTo isDig l (runTo isDig l a+1) else runTo isDig l a:=by
 have e:a+(digN (l.drop a)+1)=runTo isDig l a+1:=by rw[runTo_dig];omega
 unfold numTo numN
 rw[List.drop_drop,List.drop_drop,←runTo_dig,head_drop,h,e]
 rw[runTo_dig l (runTo isDig l a+1)]
 generalize digN (l.drop (runTo isDig l a+1))=q
 rw[runTo_dig]
 generalize digN (l.drop a)=p
 by_cases hq:0<q
 ·rw[if_pos ⟨rfl,hq⟩,if_pos (by omega)];omega
 ·rw[if_neg (fun hh=>hq hh.2),if_neg (by omega)]
theorem numEnd_core (l:List UInt8) (n:Nat) (hn:Hid (l.length=n)) (nl:(n:Int)≤30000) (hs:(str l).size=n) (m v1 v2 v3 v4 v5:Value) (a:Nat) (ha:a≤n) (w:World)
  (h3:Hid (ClassAt w v3 isDig)) (x:Nat) (hx:Hid (runTo isDig l a=x)) (hxn:x≤n) (R:Nat) (hR:Hid (numTo l a=R)) :
  Calls prog 111 #[.agg #[.string (str l),m,v1,v2,v3,v4,v5],.int .i64 (a:Int)] w fun e w'=>NumPost R w e w':=by
 have B1:Hid (∀(w':World),Below w.heap.size w w'→∀j:Nat,j≤n→Calls prog 98 #[.agg #[.string (str l),m,v1,v2,v3,v4,v5],.int .i64 (j:Int),v3] w' fun e w''=>NumPost (runTo isDig l j) w' e w'') :=
  Hd fun w' hb j hj=>behind_any l (by have:=hn.out;omega) m v1 v2 v3 v4 v5 v3 isDig j (by have:=hn.out;omega) w' (h3.out.mono hb)
 have hb0:=Hd ((qB w.heap.size w).alloc (qL _) (.cells #[.string (str l),m,v1,v2,v3,v4,v5] 118))
 have hR0:=Hd (readAt_new w (.string (str l)) m v1 v2 v3 v4 v5 118)
 have P1:=Hd (B1.out _ hb0.out a ha)
 rw[hx.out] at P1
 rcases Nat.lt_or_ge x n with hlt | hge
 ·have nx:¬(x:Int)=(n:Int):=by omega
  have bx:((x:Int) ==(n:Int))=false:=beq_false_of_ne nx
  obtain⟨c,hc⟩:=isBehind hn.out hlt
  have hix:∀h,(str l)[x]'h=c:=fun h=>str_at l hc h
  have HC:=Hd hc
  clear hc
  by_cases h46:c=46
  ·subst h46
   obtain⟨r,hr⟩:∃r,r=x+1:=⟨_,rfl⟩
   have P2:=Hd fun(w':World) (hb:Below w.heap.size w w')=>B1.out w' hb r (by omega)
   have hD:=Hd (numTo_dot (l:=l) (a:=a) (by rw[hx.out];exact HC.out))
   rw[hx.out,←hr] at hD
   have hge2:=Hd (runTo_ge isDig l r)
   have hle2:=Hd (runTo_le isDig (show r≤l.length by rw[hn.out];omega))
   obtain⟨y,hy⟩:∃y,y=runTo isDig l r:=⟨_,rfl⟩
   rw[←hy] at hD P2 hge2 hle2
   have e1:(x:Int)+1=(r:Int):=by omega
   have e46:((46:UInt8) !=46)=false:=rfl
   have yl:(y:Int)≤(n:Int):=by have:=hle2.out;rw[hn.out] at this;omega
   clear hr hy
   by_cases hq:(r:Int)<(y:Int)
   ·have q:decide ((r:Int)<(y:Int))=true:=qT hq
    have hRy:=Hd (show R=y by rw[←hR.out,hD.out,if_pos (by omega)])
    go_enter Tryz.func111,Tryz.ntmps111
    go_wp2_with (first | (go_at_call 98;((with_reducible refine P1.out.mono ?_);rintro e w2 ⟨rfl,hb2⟩;obtain⟨dS,d1,d2,d3,d4,d5,d6⟩:=hR0.out.below hb2 (by simp);have HB2:=Hd hb2;clear hb2)) | (go_at_call 98;((with_reducible refine(P2.out _ (hb0.out.trans (HB2.out.mono hb0.out.size))).mono ?_);rintro e w3 ⟨rfl,hb3⟩;have HB3:=Hd hb3;clear hb3)))
    go_ret
    exact⟨by rw[hRy.out];rfl,(hb0.out.trans (HB2.out.mono hb0.out.size)).trans (HB3.out.mono (hb0.out.trans (HB2.out.mono hb0.out.size)).size)⟩
   ·have q:decide ((r:Int)<(y:Int))=false:=qF hq
    have hRy:=Hd (show R=x by rw[←hR.out,hD.out,if_neg (by omega)])
    go_enter Tryz.func111,Tryz.ntmps111
    go_wp2_with (first | (go_at_call 98;((with_reducible refine P1.out.mono ?_);rintro e w2 ⟨rfl,hb2⟩;obtain⟨dS,d1,d2,d3,d4,d5,d6⟩:=hR0.out.below hb2 (by simp);have HB2:=Hd hb2;clear hb2)) | (go_at_call 98;((with_reducible refine(P2.out _ (hb0.out.trans (HB2.out.mono hb0.out.size))).mono ?_);rintro e w3 ⟨rfl,hb3⟩;have HB3:=Hd hb3;clear hb3)))
    go_ret
    exact⟨by rw[hRy.out];rfl,(hb0.out.trans (HB2.out.mono hb0.out.size)).trans (HB3.out.mono (hb0.out.trans (HB2.out.mono hb0.out.size)).size)⟩
  ·have n46:(c !=46)=true:=bne_iff_ne.2 h46
   have m46:((c.toNat:Int) !=46)=true:=bne_iff_ne.2 fun e=>h46 (UInt8.toNat_inj.1 (by show c.toNat=46;omega))
   have k46:¬(c.toNat:Int)=46:=fun e=>h46 (UInt8.toNat_inj.1 (by show c.toNat=46;omega))
   have hRy:=Hd (show R=x by rw[←hR.out,numTo_end (by rw[hx.out,HC.out];simpa using h46),hx.out])
   go_enter Tryz.func111,Tryz.ntmps111
   go_wp2_with (go_at_call 98;((with_reducible refine P1.out.mono ?_);rintro e w2 ⟨rfl,hb2⟩;obtain⟨dS,d1,d2,d3,d4,d5,d6⟩:=hR0.out.below hb2 (by simp);have HB2:=Hd hb2;clear hb2))
   go_ret
   exact⟨by rw[hRy.out];rfl,hb0.out.trans (HB2.out.mono hb0.out.size)⟩
 ·obtain rfl:n=x:=by omega
  have bx:((n:Int) ==(n:Int))=true:=by simp
  have hRy:=Hd (show R=n by rw[←hR.out,numTo_end (by rw[hx.out,List.getElem?_eq_none (by rw[hn.out];exact qL _)];simp),hx.out])
  go_enter Tryz.func111,Tryz.ntmps111
  go_wp2_with (go_at_call 98;((with_reducible refine P1.out.mono ?_);rintro e w2 ⟨rfl,hb2⟩;obtain⟨dS,d1,d2,d3,d4,d5,d6⟩:=hR0.out.below hb2 (by simp);have HB2:=Hd hb2;clear hb2))
  go_ret
  exact⟨by rw[hRy.out];rfl,hb0.out.trans (HB2.out.mono hb0.out.size)⟩
theorem numEnd_any (l:List UInt8) (nl:l.length≤30000) (m v1 v2 v3 v4 v5:Value) (a:Nat) (ha:a≤l.length) (w:World) (h3:ClassAt w v3 isDig) :
  Calls prog 111 #[.agg #[.string (str l),m,v1,v2,v3,v4,v5],.int .i64 (a:Int)] w fun e w'=>NumPost (numTo l a) w e w' :=
 numEnd_core l _ (Hd rfl) (by omega) (str_size l) m v1 v2 v3 v4 v5 a ha w (Hd h3) _ (Hd rfl) (runTo_le isDig ha) _ (Hd rfl)
theorem numTo_le {l:List UInt8} {a:Nat} (h:a≤l.length):numTo l a≤l.length:=by
 unfold numTo
 have:=numN_le (l.drop a)
 rw[List.length_drop] at this
 omega
theorem number_core (l:List UInt8) (n:Nat) (hn:Hid (l.length=n)) (nl:(n:Int)≤30000) (hs:(str l).size=n) (m v1 v2 v3 v4 v5:Value) (a:Nat) (ha:a≤n) (w:World) (h3:Hid (ClassAt w v3 isDig))
  (x:Nat) (hx:Hid (numTo l a=x)) (hax:a≤x) (hxn:x≤n) (T:ByteArray) (hT:(str l).extract a x=T) (V:Int) (O:Bool)
  (PA:Hid (∀w,Calls prog 112 #[.string T] w fun e w'=>e=.returned (.tuple #[.int .i64 V,.bool O])∧Below w.heap.size w w'))
  (t:List UInt8) (ht:Hid (T=str t)) (tk:Tok) (hk:Hid (tk=if O=true then⟨2,t,V,a⟩ else⟨0,[],0,a⟩)) :
  Calls prog 100 #[.agg #[.string (str l),m,v1,v2,v3,v4,v5],.int .i64 (a:Int)] w fun e w'=>TokPost tk w e w':=by
 have B1:Hid (∀(w':World),Below w.heap.size w w'→Calls prog 111 #[.agg #[.string (str l),m,v1,v2,v3,v4,v5],.int .i64 (a:Int)] w' fun e w''=>NumPost x w' e w'') :=
  Hd fun w' hb=>by have:=numEnd_any l (by have:=hn.out;omega) m v1 v2 v3 v4 v5 a (by have:=hn.out;omega) w' (h3.out.mono hb);rwa [hx.out] at this
 have x1:(0:Int)≤(a:Int):=by omega
 have x2:(a:Int)≤(x:Int):=by omega
 have x3:(x:Int)≤(n:Int):=by omega
 have hb0:=Hd (((qB w.heap.size w).alloc (qL _) (.cells #[.string (str l),m,v1,v2,v3,v4,v5] 118)).alloc (by simp) (.cells #[.int .i64 0,.string ⟨#[]⟩,.int .i64 0,.int .i64 0] 43))
 have hR0:=Hd (ReadAt.drew <| (readAt_new w (.string (str l)) m v1 v2 v3 v4 v5 118).below ((qB (w.heap.size+1) _).alloc (by simp) (.cells #[.int .i64 0,.string ⟨#[]⟩,.int .i64 0,.int .i64 0] 43)) (Nat.lt_succ_self _))
 have hM0:=Hd (RoomAt.drew (by have:=roomAt_new (w.alloc (.cells #[.string (str l),m,v1,v2,v3,v4,v5] 118)) 43;rwa [World.size_alloc] at this))
 cases O with
 | true =>
  have hk2:=Hd (hk.out.trans (if_pos rfl))
  clear hk
  go_enter Tryz.func100,Tryz.ntmps100
  go_wp2_with fail
  go_region_held3 (fun w'=>w'.cell? ⟨w.heap.size,0,none⟩=some (.string (str l))∧w'.cell? ⟨w.heap.size,1,none⟩=some m∧w'.cell? ⟨w.heap.size,2,none⟩=some v1∧w'.cell? ⟨w.heap.size,3,none⟩=some v2∧w'.cell? ⟨w.heap.size,4,none⟩=some v3∧w'.cell? ⟨w.heap.size,5,none⟩=some v4∧w'.cell? ⟨w.heap.size,6,none⟩=some v5)
   ((repeat' apply And.intro) <;> first | assumption | go_keep)
   (first | (go_at_call 111;(with_reducible refine(B1.out _ (by exact hb0.out.drew)).mono ?_);rintro e w1 ⟨rfl,hb1⟩;obtain⟨dS,d1,d2,d3,d4,d5,d6⟩:=hR0.out.below hb1 (by simp;omega);have HM1:=Hd (hM0.out.below hb1 (by simp));have HB1:=Hd hb1;clear hb1))
  have hs1:Hid (w.heap.size+1<w1.heap.size):=Hd (by have:=HB1.out.size;simp at this;omega)
  go_wp2_with (go_at_call 112;((with_reducible refine(PA.out _).mono ?_);rintro e w2 ⟨rfl,hb2⟩;obtain⟨r0,r1,r2,r3,f0,f1,f2,f3⟩:=HM1.out.below hb2 hs1.out;have HB2:=Hd hb2;clear hb2))
  have hbw:=Hd (hb0.out.drew.trans (HB1.out.mono (by simp;omega)))
  rw[hk2.out]
  exact bodyPost_ret (v:=tokV ⟨2,t,V,a⟩) (by simp[results,Tryz.results100,go_sem,r0,r1,r2,r3,tokV,ht.out]) rfl ⟨rfl,below_four (hbw.out.trans (HB2.out.mono hbw.out.size)) (Nat.le_succ _) _ _ _ _⟩
 | false =>
  have hk2:=Hd (hk.out.trans (if_neg (by simp)))
  clear hk
  go_enter Tryz.func100,Tryz.ntmps100
  go_wp2_with fail
  go_region_held3 (fun w'=>w'.cell? ⟨w.heap.size,0,none⟩=some (.string (str l))∧w'.cell? ⟨w.heap.size,1,none⟩=some m∧w'.cell? ⟨w.heap.size,2,none⟩=some v1∧w'.cell? ⟨w.heap.size,3,none⟩=some v2∧w'.cell? ⟨w.heap.size,4,none⟩=some v3∧w'.cell? ⟨w.heap.size,5,none⟩=some v4∧w'.cell? ⟨w.heap.size,6,none⟩=some v5)
   ((repeat' apply And.intro) <;> first | assumption | go_keep)
   (first | (go_at_call 111;(with_reducible refine(B1.out _ (by exact hb0.out.drew)).mono ?_);rintro e w1 ⟨rfl,hb1⟩;obtain⟨dS,d1,d2,d3,d4,d5,d6⟩:=hR0.out.below hb1 (by simp;omega);have HM1:=Hd (hM0.out.below hb1 (by simp));have HB1:=Hd hb1;clear hb1))
  have hs1:Hid (w.heap.size+1<w1.heap.size):=Hd (by have:=HB1.out.size;simp at this;omega)
  go_wp2_with (go_at_call 112;((with_reducible refine(PA.out _).mono ?_);rintro e w2 ⟨rfl,hb2⟩;obtain⟨r0,r1,r2,r3,f0,f1,f2,f3⟩:=HM1.out.below hb2 hs1.out;have HB2:=Hd hb2;clear hb2))
  have hbw:=Hd (hb0.out.drew.trans (HB1.out.mono (by simp;omega)))
  rw[hk2.out]
  exact bodyPost_ret (v:=tokV ⟨0,[],0,a⟩) (by simp[results,Tryz.results100,go_sem,r0,r1,r2,r3,tokV,str_nil]) rfl ⟨rfl,below_four (hbw.out.trans (HB2.out.mono hbw.out.size)) (Nat.le_succ _) _ _ _ _⟩
def signCells:Array Value:=(signsL.map fun s=>Value.string (str s)).toArray
def Signs (w:World):Prop:=∃t fr,w.heap[0]?=some (.cells signCells t fr)
theorem Signs.below {w w':World} (h:Signs w) (hb:Below w.heap.size w w'):Signs w':=by
 obtain⟨t,fr,h⟩:=h
 exact⟨t,fr,(hb.block _ (Array.getElem?_eq_some_iff.1 h).1).trans h⟩
theorem sign_index (w:World) (j:Nat) (hj:j<17) (s:List UInt8) (hs:signsL[j]?=some s):(Instr.index 139 (.agg signCells) (.int .i64 (j:Int))).run prog w=.ok (.string (str s)) w:=by
 have key:(Instr.index 139 (.agg signCells) (.int .i64 (j:Int))).run prog w=.ok (.string (str ((signsL[j]?).getD []))) w:=by
  clear hs
  rcases j with _ | _ | _ | _ | _ | _ | _ | _ | _ | _ | _ | _ | _ | _ | _ | _ | _ | j
  all_goals first | omega | kernel_rfl
 rw[hs] at key
 exact key
theorem signs_size:(prog.info? 139).map (·.size)=some signCells.size:=by kernel_rfl
theorem no_prefix {d:List UInt8} {L:List (List UInt8)} (hno:L.all (fun s=>!s.isPrefixOf d)=true):L.find? (fun s=>s.isPrefixOf d)=none:=List.find?_eq_none.2 fun x hx=>by
 have h:(!x.isPrefixOf d)=true:=List.all_eq_true.1 hno x hx
 intro h2
 have h2':x.isPrefixOf d=true:=h2
 rw[h2'] at h
 exact absurd h (by decide)
theorem sign_hit {d s:List UInt8} {j:Nat} (hs:signsL[j]?=some s) (hno:(signsL.take j).all (fun s=>!s.isPrefixOf d)=true) (hp:s.isPrefixOf d=true):signOf d=some s:=by
 have e:signsL=signsL.take j++s :: signsL.drop (j+1):=by
  obtain⟨hj,rfl⟩:=List.getElem?_eq_some_iff.1 hs
  rw[←List.drop_eq_getElem_cons hj,List.take_append_drop]
 have h:signOf d=(signsL.take j++s :: signsL.drop (j+1)).find? (fun s=>s.isPrefixOf d):=by unfold signOf;exact congrArg (fun L:List (List UInt8)=>List.find? (fun s:List UInt8=>List.isPrefixOf s d) L) e
 rw[h,List.find?_append,no_prefix hno,Option.none_or]
 exact List.find?_cons_of_pos hp
theorem sign_none {d:List UInt8} (hno:signsL.all (fun s=>!s.isPrefixOf d)=true):signOf d=none:=no_prefix hno
theorem all_take_next {α:Type} (f:α→Bool) {l:List α} {j:Nat} {x:α} (h:l[j]?=some x) (ha:(l.take j).all f=true) (hx:f x=true):(l.take (j+1)).all f=true:=by
 obtain⟨h1,rfl⟩:=List.getElem?_eq_some_iff.1 h
 rw[List.take_succ_eq_append_getElem h1,List.all_append,ha]
 simp[hx]
theorem prefix_take {d s:List UInt8} (h:s.isPrefixOf d=true):d.take s.length=s:=(List.prefix_iff_eq_take.1 (List.isPrefixOf_iff_prefix.1 h)).symm
theorem sign_core (l:List UInt8) (n:Nat) (hn:Hid (l.length=n)) (nl:(n:Int)≤30000) (hs:(str l).size=n) (m v1 v2 v3 v4 v5:Value) (a:Nat) (hla:(a:Int)≤(n:Int)) (w:World) (hS:Hid (Signs w))
  (D:ByteArray) (hD:(str l).extract a n=D) (hDE:Hid (D=str (l.drop a))) (tk:Tok) (hN:Hid (signOf (l.drop a)=none→tk=⟨0,[],0,a⟩)) (hY:Hid (∀s,signOf (l.drop a)=some s→tk=⟨4,s,0,a⟩)) :
  Calls prog 101 #[.agg #[.string (str l),m,v1,v2,v3,v4,v5],.int .i64 (a:Int)] w fun e w'=>TokPost tk w e w':=by
 have hb0:=Hd (((qB w.heap.size w).alloc (qL _) (.cells #[.string (str l),m,v1,v2,v3,v4,v5] 118)).alloc (by simp) (.cells #[.int .i64 0,.string ⟨#[]⟩,.int .i64 0,.int .i64 0] 43))
 obtain⟨T,fr,hT⟩:=hS.out.below hb0.out
 have HT:=Hd hT
 clear hT hS
 obtain⟨cs,hcs⟩:∃cs,cs=signCells:=⟨_,rfl⟩
 have HX:Hid (∀(w:World) (j:Nat),j<17→∀s,signsL[j]?=some s→(Instr.index 139 (.agg cs) (.int .i64 (j:Int))).run prog w=.ok (.string (str s)) w):=Hd fun w j hj s h=>by rw[hcs];exact sign_index w j hj s h
 have hsz:=Hd signs_size
 rw[←hcs] at hsz HT
 clear hcs
 go_enter Tryz.func101,Tryz.ntmps101
 go_wp2_with (refine wpList_load_row rfl 139 _ rfl 0 rfl T cs fr _ HT.out Tryz.underlying139 rfl hsz.out ?_)
 have hM0:=Hd (show RoomAt ((w.alloc (.cells #[.string (str l),m,v1,v2,v3,v4,v5] 118)).alloc (.cells #[.int .i64 0,.string ⟨#[]⟩,.int .i64 0,.int .i64 0] 43)) (w.heap.size+1) by have:=roomAt_new (w.alloc (.cells #[.string (str l),m,v1,v2,v3,v4,v5] 118)) 43;rwa [World.size_alloc] at this)
 go_loop [8] (fun i=>∃j:Nat,j≤17∧Hid ((signsL.take j).all (fun s=>!s.isPrefixOf (l.drop a))=true)∧i=.int .i64 j) (fun i=>17-litLen i)
 case atStart=>exact⟨0,by omega,Hd rfl,rfl⟩
 case round =>
  obtain⟨j,hj,hno,rfl⟩:=hrel
  rcases Nat.lt_or_ge j 17 with hlt | hge
  ·have q3:decide ((j:Int)<17)=true:=qT (by omega)
   obtain⟨s,hsj⟩:∃s,signsL[j]?=some s:=⟨signsL[j]'(by show j<17;exact hlt),List.getElem?_eq_getElem _⟩
   have hix:=fun w=>HX.out w j hlt s hsj
   have HJ:=Hd hsj
   obtain⟨k,hk⟩:∃k,k=s.length:=⟨_,rfl⟩
   have hks:(str s).size=k:=by rw[str_size,hk]
   have HK:=Hd hk
   have hk2:=signs_len (List.mem_of_getElem? hsj)
   rw[←hk] at hk2
   have kl:(k:Int)≤2:=by omega
   have hP:=fun w=>Tryz.strings_HasPrefix D (str s) w
   rw[hDE.out,str_data,str_data,←hDE.out] at hP
   clear hsj hk hk2
   obtain⟨b,hb⟩:∃b,b=s.isPrefixOf (l.drop a):=⟨_,rfl⟩
   have hP2:=Hd (show ∀w,Calls prog 113 #[.string D,.string (str s)] w fun e w'=>e=.returned (.bool b)∧w'=w by rw[hb];exact hP)
   have HB:=Hd hb
   clear hP hb
   cases b with
   | true =>
    have hpl:=Hd (List.isPrefixOf_iff_prefix.1 HB.out.symm).length_le
    have hpt:=Hd (prefix_take HB.out.symm)
    obtain⟨y,hy⟩:∃y,y=a+k:=⟨_,rfl⟩
    have e1:(a:Int)+(k:Int)=(y:Int):=by omega
    have yl:(y:Int)≤(n:Int):=by have h:=hpl.out;rw[List.length_drop,hn.out,←HK.out] at h;omega
    have al:(a:Int)≤(y:Int):=by omega
    have hex:(str l).extract a y=str s:=by rw[slice_str];congr 1;rw[hy,show a+k-a=k by omega,HK.out];exact hpt.out
    have HT2:=Hd (hY.out s (sign_hit HJ.out hno.out HB.out.symm))
    clear hy
    go_wp2_with (go_at_call 113;((with_reducible refine(hP2.out _).mono ?_);rintro e w1 ⟨rfl,rfl⟩))
    rw[HT2.out]
    exact bodyPost_ret (v:=tokV ⟨4,s,0,a⟩) (by simp[results,Tryz.results101,go_sem,tokV]) rfl ⟨rfl,((qB w.heap.size w).alloc (qL _) _).alloc (by simp) _⟩
   | false =>
    go_wp2_with (go_at_call 113;((with_reducible refine(hP2.out _).mono ?_);rintro e w1 ⟨rfl,rfl⟩))
    exact⟨⟨j+1,by omega,Hd (all_take_next _ HJ.out hno.out (by rw[←HB.out];rfl)),rfl⟩,by simp[litLen];omega⟩
  ·have q3:decide ((j:Int)<17)=false:=qF (by omega)
   have HT2:=Hd (hN.out (sign_none (by have:=hno.out;rwa [List.take_of_length_le (by show 17≤j;exact hge)] at this)))
   go_wp2_with fail
   rw[HT2.out]
   exact bodyPost_ret (v:=tokV ⟨0,[],0,a⟩) (by simp[results,Tryz.results101,go_sem,tokV,str_nil]) rfl ⟨rfl,((qB w.heap.size w).alloc (qL _) _).alloc (by simp) _⟩
theorem tokAt_num {l:List UInt8} {a:Nat} {c:UInt8} (hc:l[a]?=some c) (h1:isLetter c=false) (h2:isDig c=true) :
  tokAt l a=if(parseL ((l.drop a).take (numN (l.drop a)))).2=true then⟨2,(l.drop a).take (numN (l.drop a)),((parseL ((l.drop a).take (numN (l.drop a)))).1:Int),a⟩ else⟨0,[],0,a⟩:=by
 unfold tokAt oneL
 rw[drop_cons hc]
 simp only[h1,h2,if_true,Bool.false_eq_true,if_false]
 split <;> rfl
theorem tokAt_sign {l:List UInt8} {a:Nat} {c:UInt8} (hc:l[a]?=some c) (h1:isLetter c=false) (h2:isDig c=false) :
  tokAt l a=tokOf ((signOf (l.drop a)).map fun s=>(4,s.length,0)) (l.drop a) a:=by
 unfold tokAt oneL
 rw[drop_cons hc]
 simp only[h1,h2,Bool.false_eq_true,if_false]
theorem number_any (l:List UInt8) (nl:l.length≤30000) (m v1 v2 v3 v4 v5:Value) (a:Nat) (c:UInt8) (hc:l[a]?=some c) (h1:isLetter c=false) (h2:isDig c=true) (w:World) (hr:ClassAt w v3 isDig) :
  Calls prog 100 #[.agg #[.string (str l),m,v1,v2,v3,v4,v5],.int .i64 (a:Int)] w fun e w'=>TokPost (tokAt l a) w e w':=by
 have ha:a<l.length:=(List.getElem?_eq_some_iff.1 hc).1
 have e:(str l).extract a (numTo l a)=str ((l.drop a).take (numN (l.drop a))):=by
  rw[slice_str];congr 2;unfold numTo;omega
 have hlen:((l.drop a).take (numN (l.drop a))).length≤30000:=by rw[List.length_take,List.length_drop];omega
 refine number_core l _ (Hd rfl) (by omega) (str_size l) m v1 v2 v3 v4 v5 a (by omega) w (Hd hr) _ (Hd rfl) (by unfold numTo;omega) (numTo_le (by omega)) _ e _ _ (Hd fun w=>parse_dec _ w (by omega)) _ (Hd rfl) _ (Hd (tokAt_num hc h1 h2))
theorem sign_any (l:List UInt8) (nl:l.length≤30000) (m v1 v2 v3 v4 v5:Value) (a:Nat) (c:UInt8) (hc:l[a]?=some c) (h1:isLetter c=false) (h2:isDig c=false) (w:World) (hS:Signs w) :
  Calls prog 101 #[.agg #[.string (str l),m,v1,v2,v3,v4,v5],.int .i64 (a:Int)] w fun e w'=>TokPost (tokAt l a) w e w':=by
 have ha:a<l.length:=(List.getElem?_eq_some_iff.1 hc).1
 have ht:=tokAt_sign hc h1 h2
 refine sign_core l _ (Hd rfl) (by omega) (str_size l) m v1 v2 v3 v4 v5 a (by omega) w (Hd hS) _ (by rw[slice_str,List.take_of_length_le (by rw[List.length_drop];omega)]) (Hd rfl) _ (Hd fun h=>by rw[ht,h];rfl) (Hd fun s h=>by rw[ht,h];exact congrArg (Tok.mk 4 · 0 a) (prefix_take (signOf_mem h).2))
def TokRet (k v a:Int) (S:ByteArray) (w:World) (e:Ending) (w':World):Prop:=e=.returned (.agg #[.int .i64 k,.string S,.int .i64 v,.int .i64 a])∧Below w.heap.size w w'
theorem token_core (l:List UInt8) (n:Nat) (hn:Hid (l.length=n)) (nl:(n:Int)≤30000) (hs:(str l).size=n) (b:Nat) (v1 v2 v5:Value) (k3 k4:FuncId) (lb3 lb4:Array Value) (a:Nat) (ha:a<n) (w:World)
  (hr:Hid (Reader w b v1 v2 (.func (.func k3) #[] lb3) (.func (.func k4) #[] lb4) v5)) (hS:Hid (Signs w))
  (ek3:∀args w,(callFunc k3 args).run prog w=.ok (.enter k3 args) w) (ek4:∀args w,(callFunc k4 args).run prog w=.ok (.enter k4 args) w)
  (hc3:Hid (∀w',Below w.heap.size w w'→∀c:UInt8,Calls prog k3 (#[.int .u8 (c.toNat:Int)]++lb3) w' fun e w''=>e=.returned (.bool (isDig c))∧w''=w'))
  (hc4:Hid (∀w',Below w.heap.size w w'→∀c:UInt8,Calls prog k4 (#[.int .u8 (c.toNat:Int)]++lb4) w' fun e w''=>e=.returned (.bool (isLetter c))∧w''=w')) :
  Calls prog 84 #[.agg #[.string (str l),.map (some b),v1,v2,.func (.func k3) #[] lb3,.func (.func k4) #[] lb4,v5],.int .i64 (a:Int)] w fun e w'=>TokPost (tokAt l a) w e w':=by
 obtain⟨c,hc⟩:=isBehind hn.out ha
 have hix:∀h,(str l)[a]'h=c:=fun h=>str_at l hc h
 have HC:=Hd hc
 clear hc
 have hal:(a:Int)<(n:Int):=by omega
 have hb0:=Hd (((qB w.heap.size w).alloc (qL _) (.cells #[.string (str l),.map (some b),v1,v2,.func (.func k3) #[] lb3,.func (.func k4) #[] lb4,v5] 118)).alloc (by simp) (.cells #[.int .i64 0,.string ⟨#[]⟩,.int .i64 0,.int .i64 0] 43))
 have hM0:=Hd (show RoomAt ((w.alloc (.cells #[.string (str l),.map (some b),v1,v2,.func (.func k3) #[] lb3,.func (.func k4) #[] lb4,v5] 118)).alloc (.cells #[.int .i64 0,.string ⟨#[]⟩,.int .i64 0,.int .i64 0] 43)) (w.heap.size+1) by have:=roomAt_new (w.alloc (.cells #[.string (str l),.map (some b),v1,v2,.func (.func k3) #[] lb3,.func (.func k4) #[] lb4,v5] 118)) 43;rwa [World.size_alloc] at this)
 have C4:=Hd (hc4.out _ hb0.out c)
 have C3:=Hd (hc3.out _ hb0.out c)
 obtain⟨kk,vv,aa,S,HTK⟩:∃kk vv aa S,Hid (∀(w:World) (e:Ending) (w':World),TokPost (tokAt l a) w e w'=TokRet kk vv aa S w e w'):=⟨_,_,_,_,Hd fun _ _ _=>rfl⟩
 suffices goal:Calls prog 84 #[.agg #[.string (str l),.map (some b),v1,v2,.func (.func k3) #[] lb3,.func (.func k4) #[] lb4,v5],.int .i64 (a:Int)] w fun e w'=>TokRet kk vv aa S w e w' from
  goal.mono fun e w' h=>by rw[HTK.out];exact h
 obtain⟨b4,hb4⟩:∃x,x=isLetter c:=⟨_,rfl⟩
 rw[←hb4] at C4
 have H4:=Hd hb4
 clear hb4
 obtain⟨b3,hb3⟩:∃x,x=isDig c:=⟨_,rfl⟩
 rw[←hb3] at C3
 have H3:=Hd hb3
 clear hb3
 have nl':=Hd (show l.length≤30000 by rw[hn.out];omega)
 cases b4 with
 | true =>
  have CN:=Hd ((name_any l nl'.out b v1 v2 (.func (.func k3) #[] lb3) (.func (.func k4) #[] lb4) v5 a c HC.out H4.out.symm _ (hr.out.mono hb0.out)).mono fun e w' h=>(HTK.out _ e w').mp h)
  go_enter Tryz.func84,Tryz.ntmps84
  go_wp2_with (first | (go_at_call 99;((with_reducible refine CN.out.mono ?_);rintro e w2 ⟨rfl,hb2⟩;obtain⟨r0,r1,r2,r3,f0,f1,f2,f3⟩:=hM0.out.below hb2 (by simp);have HB2:=Hd hb2;clear hb2)) | ((with_reducible refine C4.out.mono ?_);rintro e w' ⟨rfl,rfl⟩))
  exact bodyPost_ret (v:=.agg #[.int .i64 kk,.string S,.int .i64 vv,.int .i64 aa]) (by simp[results,Tryz.results84,go_sem,r0,r1,r2,r3]) rfl ⟨rfl,below_four (hb0.out.trans (HB2.out.mono hb0.out.size)) (Nat.le_succ _) _ _ _ _⟩
 | false =>
  cases b3 with
  | true =>
   have CN:=Hd ((number_any l nl'.out (.map (some b)) v1 v2 (.func (.func k3) #[] lb3) (.func (.func k4) #[] lb4) v5 a c HC.out H4.out.symm H3.out.symm _ (hr.out.mono hb0.out).2.2.2.1).mono fun e w' h=>(HTK.out _ e w').mp h)
   go_enter Tryz.func84,Tryz.ntmps84
   go_wp2_with (first | (go_at_call 100;((with_reducible refine CN.out.mono ?_);rintro e w2 ⟨rfl,hb2⟩;obtain⟨r0,r1,r2,r3,f0,f1,f2,f3⟩:=hM0.out.below hb2 (by simp);have HB2:=Hd hb2;clear hb2)) | ((with_reducible refine C4.out.mono ?_);rintro e w' ⟨rfl,rfl⟩) | ((with_reducible refine C3.out.mono ?_);rintro e w' ⟨rfl,rfl⟩))
   exact bodyPost_ret (v:=.agg #[.int .i64 kk,.string S,.int .i64 vv,.int .i64 aa]) (by simp[results,Tryz.results84,go_sem,r0,r1,r2,r3]) rfl ⟨rfl,below_four (hb0.out.trans (HB2.out.mono hb0.out.size)) (Nat.le_succ _) _ _ _ _⟩
  | false =>
   have CN:=Hd ((sign_any l nl'.out (.map (some b)) v1 v2 (.func (.func k3) #[] lb3) (.func (.func k4) #[] lb4) v5 a c HC.out H4.out.symm H3.out.symm _ (hS.out.below hb0.out)).mono fun e w' h=>(HTK.out _ e w').mp h)
   go_enter Tryz.func84,Tryz.ntmps84
   go_wp2_with (first | (go_at_call 101;((with_reducible refine CN.out.mono ?_);rintro e w2 ⟨rfl,hb2⟩;obtain⟨r0,r1,r2,r3,f0,f1,f2,f3⟩:=hM0.out.below hb2 (by simp);have HB2:=Hd hb2;clear hb2)) | ((with_reducible refine C4.out.mono ?_);rintro e w' ⟨rfl,rfl⟩) | ((with_reducible refine C3.out.mono ?_);rintro e w' ⟨rfl,rfl⟩))
   exact bodyPost_ret (v:=.agg #[.int .i64 kk,.string S,.int .i64 vv,.int .i64 aa]) (by simp[results,Tryz.results84,go_sem,r0,r1,r2,r3]) rfl ⟨rfl,below_four (hb0.out.trans (HB2.out.mono hb0.out.size)) (Nat.le_succ _) _ _ _ _⟩
theorem token_any (l:List UInt8) (nl:l.length≤30000) (b:Nat) (v1 v2 v3 v4 v5:Value) (a:Nat) (ha:a<l.length) (w:World) (hr:Reader w b v1 v2 v3 v4 v5) (hS:Signs w) :
  Calls prog 84 #[.agg #[.string (str l),.map (some b),v1,v2,v3,v4,v5],.int .i64 (a:Int)] w fun e w'=>TokPost (tokAt l a) w e w':=by
 have hr':=hr
 obtain⟨_,_,_,⟨k3,lb3,rfl,ek3,hc3⟩,⟨k4,lb4,rfl,ek4,hc4⟩,_⟩:=hr
 exact token_core l _ (Hd rfl) (by omega) (str_size l) b v1 v2 v5 k3 k4 lb3 lb4 a ha w (Hd hr') (Hd hS) ek3 ek4 (Hd hc3) (Hd hc4)
theorem among_one (x c:UInt8):decide (0≤Lib.indexByte [x] c)=(c ==x):=by
 by_cases h:x=c
 ·subst h;simp[Lib.indexByte]
 ·have h1:(x ==c)=false:=beq_false_of_ne h
  have h2:(c ==x)=false:=beq_false_of_ne (Ne.symm h)
  rw[h2]
  simp[Lib.indexByte,h1]
theorem index_ge (l:List UInt8) (c:UInt8):-1≤Lib.indexByte l c:=by
 induction l with
 | nil=>exact Int.le_refl _
 | cons x l ih =>
  unfold Lib.indexByte
  split
  ·omega
  ·split <;> omega
theorem among_cons (x:UInt8) (l:List UInt8) (c:UInt8):decide (0≤Lib.indexByte (x :: l) c)=(c ==x||decide (0≤Lib.indexByte l c)):=by
 have hg:=index_ge l c
 by_cases h:x=c
 ·subst h;simp[Lib.indexByte]
 ·have h1:(x ==c)=false:=beq_false_of_ne h
  have h2:(c ==x)=false:=beq_false_of_ne (Ne.symm h)
  rw[h2,Bool.false_or]
  rw[show Lib.indexByte (x :: l) c=if(x ==c)=true then 0 else if(Lib.indexByte l c ==-1)=true then -1 else Lib.indexByte l c+1 from rfl,h1]
  simp only[Bool.false_eq_true,if_false]
  by_cases h3:Lib.indexByte l c=-1
  ·rw[h3];rfl
  ·have h4:(Lib.indexByte l c ==-1)=false:=beq_false_of_ne h3
   rw[h4]
   simp only[Bool.false_eq_true,if_false]
   rw[Bool.eq_iff_iff]
   simp only[decide_eq_true_eq]
   omega
theorem among_blank (c:UInt8):decide (0≤Lib.indexByte [32,9,10,13] c)=isBlank c:=by
 rw[among_cons,among_cons,among_cons,among_one];rfl
theorem span_dig (c:UInt8):(decide ((48:Int)≤(c.toNat:Int))&&decide ((c.toNat:Int)≤57))=isDig c:=by
 unfold isDig
 congr 1
 ·rw[Bool.eq_iff_iff];simp only[decide_eq_true_eq];omega
 ·rw[Bool.eq_iff_iff];simp only[decide_eq_true_eq];omega
theorem span_nat (x y:Nat) (c:UInt8):(decide ((x:Int)≤(c.toNat:Int))&&decide ((c.toNat:Int)≤(y:Int)))=(decide (x≤c.toNat)&&decide (c.toNat≤y)):=by
 congr 1
 ·rw[Bool.eq_iff_iff];simp only[decide_eq_true_eq];omega
 ·rw[Bool.eq_iff_iff];simp only[decide_eq_true_eq];omega
def ReaderFrom (g:Nat) (w:World) (b:Nat) (v1 v2 v3 v4 v5:Value):Prop :=
 g≤b∧WordMap w b∧ClassFrom g w v1 isBlank∧ClassFrom g w v2 isComment∧ClassFrom g w v3 isDig∧ClassFrom g w v4 isLetter∧ClassFrom g w v5 isName
theorem ReaderFrom.at_ {g:Nat} {w:World} {b:Nat} {v1 v2 v3 v4 v5:Value} (h:ReaderFrom g w b v1 v2 v3 v4 v5):Reader w b v1 v2 v3 v4 v5 :=
 ⟨h.2.1,h.2.2.1.at_,h.2.2.2.1.at_,h.2.2.2.2.1.at_,h.2.2.2.2.2.1.at_,h.2.2.2.2.2.2.at_⟩
def GivesReader (l:List UInt8) (w:World) (e:Ending) (w':World):Prop :=
 ∃b v1 v2 v3 v4 v5,e=.returned (.agg #[.string (str l),.map (some b),v1,v2,v3,v4,v5])∧ReaderFrom (w.heap.size+1) w' b v1 v2 v3 v4 v5∧Below w.heap.size w w'
def pU:UInt8→Bool:=fun c=>decide ((97:Int)≤(c.toNat:Int))&&decide ((c.toNat:Int)≤122)
def pV:UInt8→Bool:=fun c=>decide ((65:Int)≤(c.toNat:Int))&&decide ((c.toNat:Int)≤90)
def pW:UInt8→Bool:=fun c=>decide (0≤Lib.indexByte [95] c)
theorem letter_any (c:UInt8):([pU,pV,pW].any fun p=>p c)=isLetter c:=by
 simp only[List.any_cons,List.any_nil,Bool.or_false]
 unfold isLetter pU pV pW
 rw[among_one,show(decide ((97:Int)≤(c.toNat:Int))&&decide ((c.toNat:Int)≤122))=(decide (97≤c.toNat)&&decide (c.toNat≤122)) from span_nat 97 122 c,
  show(decide ((65:Int)≤(c.toNat:Int))&&decide ((c.toNat:Int)≤90))=(decide (65≤c.toNat)&&decide (c.toNat≤90)) from span_nat 65 90 c]
theorem inName_any (c:UInt8):([isLetter,isDig].any fun p=>p c)=isName c:=by
 simp only[List.any_cons,List.any_nil,Bool.or_false]
 rfl
theorem classes_two {B:Nat} {w:World} {k1 k2:FuncId} {lb1 lb2:Array Value} {p1 p2:UInt8→Bool} (h1:ClassFrom B w (.func (.func k1) #[] lb1) p1) (h2:ClassFrom B w (.func (.func k2) #[] lb2) p2) (T:TypeId) (hB:B≤w.heap.size) :
  ClassesFrom B (w.alloc (.cells #[.func (.func k1) #[] lb1,.func (.func k2) #[] lb2] T)) w.heap.size [p1,p2]:=by
 have hb:Below w.heap.size w (w.alloc (.cells #[.func (.func k1) #[] lb1,.func (.func k2) #[] lb2] T)):=(qB _ w).alloc (qL _) _
 obtain⟨_,_,e1,ek1,L1,hL1,hc1⟩:=h1
 obtain⟨_,_,e2,ek2,L2,hL2,hc2⟩:=h2
 cases e1;cases e2
 refine⟨hB,by simp,L1++L2,fun b hm=>?_,fun w' hg hw j p hp=>?_⟩
 ·rcases List.mem_append.1 hm with hm | hm
  ·exact⟨(hL1 b hm).1,by have:=(hL1 b hm).2;simp;omega⟩
  ·exact⟨(hL2 b hm).1,by have:=(hL2 b hm).2;simp;omega⟩
 ·rcases j with _ | _ | j
  ·cases hp;exact⟨k1,lb1,(cell_same hg 0).trans (by rw[World.cell?_alloc_new];rfl),ek1,hc1 w' fun b hm=>(hw b (List.mem_append_left _ hm)).trans (hb.block b (hL1 b hm).2)⟩
  ·cases hp;exact⟨k2,lb2,(cell_same hg 1).trans (by rw[World.cell?_alloc_new];rfl),ek2,hc2 w' fun b hm=>(hw b (List.mem_append_right _ hm)).trans (hb.block b (hL2 b hm).2)⟩
  ·cases hp
theorem classes_three {B:Nat} {w:World} {k1 k2 k3:FuncId} {lb1 lb2 lb3:Array Value} {p1 p2 p3:UInt8→Bool} (h1:ClassFrom B w (.func (.func k1) #[] lb1) p1) (h2:ClassFrom B w (.func (.func k2) #[] lb2) p2) (h3:ClassFrom B w (.func (.func k3) #[] lb3) p3) (T:TypeId) (hB:B≤w.heap.size) :
  ClassesFrom B (w.alloc (.cells #[.func (.func k1) #[] lb1,.func (.func k2) #[] lb2,.func (.func k3) #[] lb3] T)) w.heap.size [p1,p2,p3]:=by
 have hb:Below w.heap.size w (w.alloc (.cells #[.func (.func k1) #[] lb1,.func (.func k2) #[] lb2,.func (.func k3) #[] lb3] T)):=(qB _ w).alloc (qL _) _
 obtain⟨_,_,e1,ek1,L1,hL1,hc1⟩:=h1
 obtain⟨_,_,e2,ek2,L2,hL2,hc2⟩:=h2
 obtain⟨_,_,e3,ek3,L3,hL3,hc3⟩:=h3
 cases e1;cases e2;cases e3
 refine⟨hB,by simp,L1++(L2++L3),fun b hm=>?_,fun w' hg hw j p hp=>?_⟩
 ·rcases List.mem_append.1 hm with hm | hm
  ·exact⟨(hL1 b hm).1,by have:=(hL1 b hm).2;simp;omega⟩
  ·rcases List.mem_append.1 hm with hm | hm
   ·exact⟨(hL2 b hm).1,by have:=(hL2 b hm).2;simp;omega⟩
   ·exact⟨(hL3 b hm).1,by have:=(hL3 b hm).2;simp;omega⟩
 ·rcases j with _ | _ | _ | j
  ·cases hp;exact⟨k1,lb1,(cell_same hg 0).trans (by rw[World.cell?_alloc_new];rfl),ek1,hc1 w' fun b hm=>(hw b (List.mem_append_left _ hm)).trans (hb.block b (hL1 b hm).2)⟩
  ·cases hp;exact⟨k2,lb2,(cell_same hg 1).trans (by rw[World.cell?_alloc_new];rfl),ek2,hc2 w' fun b hm=>(hw b (List.mem_append_right _ (List.mem_append_left _ hm))).trans (hb.block b (hL2 b hm).2)⟩
  ·cases hp;exact⟨k3,lb3,(cell_same hg 2).trans (by rw[World.cell?_alloc_new];rfl),ek3,hc3 w' fun b hm=>(hw b (List.mem_append_right _ (List.mem_append_right _ hm))).trans (hb.block b (hL3 b hm).2)⟩
  ·cases hp
theorem WordMap.kept {w w':World} {b:Nat} (h:WordMap w b) (hk:w'.heap[b]?=w.heap[b]?) (hs:w.heap.size≤w'.heap.size):WordMap w' b:=by
 obtain⟨hlt,n,D,⟨es,clock,h1,h2,h3,h4⟩,hh⟩:=h
 exact⟨Nat.lt_of_lt_of_le hlt hs,n,D,⟨es,clock,hk.trans h1,h2,h3,h4⟩,hh⟩
def set7 (w:World) (g:Nat) (x0 x1 x2 x3 x4 x5 x6:Value):World:=((((((w.setCell ⟨g,0,none⟩ x0).setCell ⟨g,1,none⟩ x1).setCell ⟨g,2,none⟩ x2).setCell ⟨g,3,none⟩ x3).setCell ⟨g,4,none⟩ x4).setCell ⟨g,5,none⟩ x5).setCell ⟨g,6,none⟩ x6
theorem set7_heap (w:World) (g:Nat) (x0 x1 x2 x3 x4 x5 x6:Value) (b:Nat) (h:b≠g):(set7 w g x0 x1 x2 x3 x4 x5 x6).heap[b]?=w.heap[b]?:=by
 unfold set7
 rw[Below.heap_setCell _ ⟨g,6,none⟩ _ b h,Below.heap_setCell _ ⟨g,5,none⟩ _ b h,Below.heap_setCell _ ⟨g,4,none⟩ _ b h,Below.heap_setCell _ ⟨g,3,none⟩ _ b h,Below.heap_setCell _ ⟨g,2,none⟩ _ b h,Below.heap_setCell _ ⟨g,1,none⟩ _ b h,Below.heap_setCell _ ⟨g,0,none⟩ _ b h]
theorem set7_below {B g:Nat} {w w1:World} (h:Below B w w1) (hg:B≤g) (x0 x1 x2 x3 x4 x5 x6:Value):Below B w (set7 w1 g x0 x1 x2 x3 x4 x5 x6) :=
 ((((((h.setCell (p:=⟨g,0,none⟩) hg _).setCell (p:=⟨g,1,none⟩) hg _).setCell (p:=⟨g,2,none⟩) hg _).setCell (p:=⟨g,3,none⟩) hg _).setCell (p:=⟨g,4,none⟩) hg _).setCell (p:=⟨g,5,none⟩) hg _).setCell (p:=⟨g,6,none⟩) hg _
theorem set7_class {g:Nat} {w:World} {v:Value} {p:UInt8→Bool} (h:ClassFrom (g+1) w v p) (x0 x1 x2 x3 x4 x5 x6:Value):ClassFrom (g+1) (set7 w g x0 x1 x2 x3 x4 x5 x6) v p :=
 h.kept (fun b hb _=>set7_heap w g _ _ _ _ _ _ _ b (by omega)) (set7_below (B:=0) (qB 0 w) (Nat.zero_le _) _ _ _ _ _ _ _).size (qL _)
 def Free (w:World) (g:Nat):Prop:=w.frozen? ⟨g,0,none⟩=false∧w.frozen? ⟨g,1,none⟩=false∧w.frozen? ⟨g,2,none⟩=false∧w.frozen? ⟨g,3,none⟩=false∧w.frozen? ⟨g,4,none⟩=false∧w.frozen? ⟨g,5,none⟩=false∧w.frozen? ⟨g,6,none⟩=false
theorem free_new (w:World) (cs:Array Value) (T:TypeId):Free (w.alloc (.cells cs T)) w.heap.size:=⟨World.frozen?_alloc_new _ _ _ _,World.frozen?_alloc_new _ _ _ _,World.frozen?_alloc_new _ _ _ _,World.frozen?_alloc_new _ _ _ _,World.frozen?_alloc_new _ _ _ _,World.frozen?_alloc_new _ _ _ _,World.frozen?_alloc_new _ _ _ _⟩
theorem Free.below {w w':World} {g B:Nat} (h:Free w g) (hb:Below B w w') (hg:g<B):Free w' g :=
 ⟨(hb.frozen (p:=⟨g,0,none⟩) hg).trans h.1,(hb.frozen (p:=⟨g,1,none⟩) hg).trans h.2.1,(hb.frozen (p:=⟨g,2,none⟩) hg).trans h.2.2.1,(hb.frozen (p:=⟨g,3,none⟩) hg).trans h.2.2.2.1,(hb.frozen (p:=⟨g,4,none⟩) hg).trans h.2.2.2.2.1,(hb.frozen (p:=⟨g,5,none⟩) hg).trans h.2.2.2.2.2.1,(hb.frozen (p:=⟨g,6,none⟩) hg).trans h.2.2.2.2.2.2⟩
def GivesWords (g:Nat) (w:World) (e:Ending) (w':World):Prop:=∃b,e=.returned (.map (some b))∧g≤b∧WordMap w' b∧Below w.heap.size w w'
theorem gives_words (g:Nat) (w:World) (hg:g≤w.heap.size):Calls prog 96 #[] w fun e w'=>GivesWords g w e w':=(words_any w).mono fun _ _ ⟨h1,h2,h3⟩=>⟨_,h1,hg,h2,h3⟩
theorem gives_func {g:Nat} {w w':World} {p:UInt8→Bool} {e:Ending} (h:GivesClass g w p e w'):∃k lb,e=.returned (.func (.func k) #[] lb)∧ClassFrom g w' (.func (.func k) #[] lb) p∧Below w.heap.size w w':=by
 obtain⟨_,he,⟨k,lb,rfl,hk⟩,hb⟩:=h
 exact⟨k,lb,he,⟨k,lb,rfl,hk⟩,hb⟩
theorem below_next {g:Nat} {A W W':World} (h:Below (g+1) A W) (hA:Hid (g+1≤A.heap.size)) (hb:Below W.heap.size W W'):Below (g+1) A W':=h.trans (hb.mono (Nat.le_trans hA.out h.size))
theorem below_row {g:Nat} {A W:World} (h:Below (g+1) A W) (hA:Hid (g+1≤A.heap.size)) (o:Obj):Below (g+1) A (W.alloc o):=h.alloc (Nat.le_trans hA.out h.size) o
theorem reader_any (l:List UInt8) (w:World) :
  Calls prog 81 #[.string (str l)] w fun e w'=>GivesReader l w e w':=by
 have K1:Hid (∀W,w.heap.size+1≤W.heap.size→Calls prog 93 #[.int .u8 48,.int .u8 57] W fun e w'=>GivesClass (w.heap.size+1) W isDig e w') :=
  Hd fun W h=>(span_any 48 57 W _ h).mono fun e w' ⟨v,h1,h2,h3⟩=>⟨v,h1,h2.congr span_dig,h3⟩
 have K2:Hid (∀W,w.heap.size+1≤W.heap.size→Calls prog 93 #[.int .u8 97,.int .u8 122] W fun e w'=>GivesClass (w.heap.size+1) W pU e w'):=Hd fun W h=>span_any 97 122 W _ h
 have K3:Hid (∀W,w.heap.size+1≤W.heap.size→Calls prog 93 #[.int .u8 65,.int .u8 90] W fun e w'=>GivesClass (w.heap.size+1) W pV e w'):=Hd fun W h=>span_any 65 90 W _ h
 have K4:Hid (∀W,w.heap.size+1≤W.heap.size→Calls prog 95 #[.string ⟨#[95]⟩] W fun e w'=>GivesClass (w.heap.size+1) W pW e w'):=Hd fun W h=>among_any ⟨#[95]⟩ W _ h
 have K7:Hid (∀W,w.heap.size+1≤W.heap.size→Calls prog 95 #[.string ⟨#[32,9,10,13]⟩] W fun e w'=>GivesClass (w.heap.size+1) W isBlank e w') :=
  Hd fun W h=>(among_any ⟨#[32,9,10,13]⟩ W _ h).mono fun e w' ⟨v,h1,h2,h3⟩=>⟨v,h1,h2.congr among_blank,h3⟩
 have K8:Hid (∀W,w.heap.size+1≤W.heap.size→Calls prog 95 #[.string ⟨#[10]⟩] W fun e w'=>GivesClass (w.heap.size+1) W (fun c=>c ==10) e w') :=
  Hd fun W h=>(among_any ⟨#[10]⟩ W _ h).mono fun e w' ⟨v,h1,h2,h3⟩=>⟨v,h1,h2.congr fun c=>among_one 10 c,h3⟩
 have HB:=Hd (qB (w.heap.size+1) (w.alloc (.cells #[.string ⟨#[]⟩,.map none,.nilFunc,.nilFunc,.nilFunc,.nilFunc,.nilFunc] 118)))
 have hA:Hid (w.heap.size+1≤(w.alloc (.cells #[.string ⟨#[]⟩,.map none,.nilFunc,.nilFunc,.nilFunc,.nilFunc,.nilFunc] 118)).heap.size):=Hd (by simp)
 go_enter Tryz.func81,Tryz.ntmps81
 go_wp2_with (first | (go_at_call 93;((with_reducible refine(K1.out _ (by exact Nat.le_trans hA.out HB.out.size)).mono ?_);rintro e _ hgc;obtain⟨kvd,lvd,rfl,hc,hb⟩:=gives_func hgc;clear hgc;have CD:=Hd hc;replace HB:=Hd (below_next HB.out hA hb);clear hc hb)) | (go_at_call 93;((with_reducible refine(K2.out _ (by exact Nat.le_trans hA.out HB.out.size)).mono ?_);rintro e _ hgc;obtain⟨kva,lva,rfl,hc,hb⟩:=gives_func hgc;clear hgc;have C1:=Hd hc;replace HB:=Hd (below_next HB.out hA hb);replace CD:=Hd (CD.out.mono hb);clear hc hb)) | (go_at_call 93;((with_reducible refine(K3.out _ (by exact Nat.le_trans hA.out HB.out.size)).mono ?_);rintro e _ hgc;obtain⟨kvb,lvb,rfl,hc,hb⟩:=gives_func hgc;clear hgc;have C2:=Hd hc;replace HB:=Hd (below_next HB.out hA hb);replace CD:=Hd (CD.out.mono hb);replace C1:=Hd (C1.out.mono hb);clear hc hb)) | (go_at_call 95;((with_reducible refine(K4.out _ (by exact Nat.le_trans hA.out HB.out.size)).mono ?_);rintro e _ hgc;obtain⟨kvc,lvc,rfl,hc,hb⟩:=gives_func hgc;clear hgc;have C3:=Hd hc;replace HB:=Hd (below_next HB.out hA hb);replace CD:=Hd (CD.out.mono hb);replace C1:=Hd (C1.out.mono hb);replace C2:=Hd (C2.out.mono hb);clear hc hb)) | (go_at_call 94;have HB3:=HB;replace CD:=Hd (CD.out.mono ((qB _ _).alloc (qL _) (.cells #[.func (.func kva) #[] lva,.func (.func kvb) #[] lvb,.func (.func kvc) #[] lvc] 116)));replace HB:=Hd (below_row HB.out hA (.cells #[.func (.func kva) #[] lva,.func (.func kvb) #[] lvb,.func (.func kvc) #[] lvc] 116));((with_reducible refine(either_any _ 3 [pU,pV,pW] rfl (by decide) _ _ (by exact classes_three C1.out C2.out C3.out _ (Nat.le_trans hA.out HB3.out.size))).mono ?_);rintro e _ hgc;obtain⟨kvl,lvl,rfl,hc,hb⟩:=gives_func hgc;clear hgc;have CL:=Hd hc;replace HB:=Hd (below_next HB.out hA hb);replace CD:=Hd (CD.out.mono hb);clear hc hb)) | (go_at_call 96;((with_reducible refine(gives_words _ _ (by exact Nat.le_trans hA.out HB.out.size)).mono ?_);rintro e _ ⟨mb,rfl,hmb0,hc,hb⟩;have CW:=Hd hc;replace HB:=Hd (below_next HB.out hA hb);replace CD:=Hd (CD.out.mono hb);replace CL:=Hd (CL.out.mono hb);have hmb:=Hd hmb0;clear hc hb hmb0)) | (go_at_call 95;((with_reducible refine(K7.out _ (by exact Nat.le_trans hA.out HB.out.size)).mono ?_);rintro e _ hgc;obtain⟨kvk,lvk,rfl,hc,hb⟩:=gives_func hgc;clear hgc;have CK:=Hd hc;replace HB:=Hd (below_next HB.out hA hb);replace CD:=Hd (CD.out.mono hb);replace CL:=Hd (CL.out.mono hb);replace CW:=Hd (CW.out.below hb CW.out.1);clear hc hb)) | (go_at_call 95;((with_reducible refine(K8.out _ (by exact Nat.le_trans hA.out HB.out.size)).mono ?_);rintro e _ hgc;obtain⟨kvn,lvn,rfl,hc,hb⟩:=gives_func hgc;clear hgc;have CN:=Hd hc;replace HB:=Hd (below_next HB.out hA hb);replace CD:=Hd (CD.out.mono hb);replace CL:=Hd (CL.out.mono hb);replace CK:=Hd (CK.out.mono hb);replace CW:=Hd (CW.out.below hb CW.out.1);clear hc hb)) | (go_at_call 97;((with_reducible refine(but_any (.func (.func kvn) #[] lvn) _ _ _ (by exact Nat.le_trans hA.out HB.out.size) CN.out).mono ?_);rintro e _ hgc;obtain⟨kvm,lvm,rfl,hc,hb⟩:=gives_func hgc;clear hgc;have CM:=Hd hc;replace HB:=Hd (below_next HB.out hA hb);replace CD:=Hd (CD.out.mono hb);replace CL:=Hd (CL.out.mono hb);replace CK:=Hd (CK.out.mono hb);replace CW:=Hd (CW.out.below hb CW.out.1);clear hc hb)) | (go_at_call 94;have CL2:=Hd (CL.out.congr letter_any);have CD2:=CD;have HB2:=HB;replace CD:=Hd (CD.out.mono ((qB _ _).alloc (qL _) (.cells #[.func (.func kvl) #[] lvl,.func (.func kvd) #[] lvd] 116)));replace CL:=Hd (CL.out.mono ((qB _ _).alloc (qL _) (.cells #[.func (.func kvl) #[] lvl,.func (.func kvd) #[] lvd] 116)));replace CK:=Hd (CK.out.mono ((qB _ _).alloc (qL _) (.cells #[.func (.func kvl) #[] lvl,.func (.func kvd) #[] lvd] 116)));replace CM:=Hd (CM.out.mono ((qB _ _).alloc (qL _) (.cells #[.func (.func kvl) #[] lvl,.func (.func kvd) #[] lvd] 116)));replace CW:=Hd (CW.out.below ((qB _ _).alloc (qL _) (.cells #[.func (.func kvl) #[] lvl,.func (.func kvd) #[] lvd] 116)) CW.out.1);replace HB:=Hd (below_row HB.out hA (.cells #[.func (.func kvl) #[] lvl,.func (.func kvd) #[] lvd] 116));((with_reducible refine(either_any _ 2 [isLetter,isDig] rfl (by decide) _ _ (by exact classes_two CL2.out CD2.out _ (Nat.le_trans hA.out HB2.out.size))).mono ?_);rintro e _ hgc;obtain⟨kvi,lvi,rfl,hc,hb⟩:=gives_func hgc;clear hgc;have CI:=Hd hc;replace HB:=Hd (below_next HB.out hA hb);replace CD:=Hd (CD.out.mono hb);replace CL:=Hd (CL.out.mono hb);replace CK:=Hd (CK.out.mono hb);replace CM:=Hd (CM.out.mono hb);replace CW:=Hd (CW.out.below hb CW.out.1);obtain⟨r0,r1,r2,r3,r4,r5,r6⟩:=(readAt_new w (.string ⟨#[]⟩) (.map none) .nilFunc .nilFunc .nilFunc .nilFunc .nilFunc 118).below HB.out (Nat.lt_succ_self _);obtain⟨f0,f1,f2,f3,f4,f5,f6⟩:=(free_new w #[.string ⟨#[]⟩,.map none,.nilFunc,.nilFunc,.nilFunc,.nilFunc,.nilFunc] 118).below HB.out (Nat.lt_succ_self _);clear hc hb)))
 have hbw:=Hd (((qB w.heap.size w).alloc (qL _) (.cells #[.string ⟨#[]⟩,.map none,.nilFunc,.nilFunc,.nilFunc,.nilFunc,.nilFunc] 118)).trans (HB.out.mono (Nat.le_succ _)))
 refine bodyPost_ret (v:=.agg #[.string (str l),.map (some mb),.func (.func kvk) #[] lvk,.func (.func kvm) #[] lvm,.func (.func kvd) #[] lvd,.func (.func kvl) #[] lvl,.func (.func kvi) #[] lvi]) (by simp[results,Tryz.results81,go_sem,r0,r1,r2,r3,r4,r5,r6]) rfl ⟨_,_,_,_,_,_,rfl,⟨hmb.out,?_,?_,?_,?_,?_,?_⟩,?_⟩
 ·exact CW.out.kept (set7_heap _ _ _ _ _ _ _ _ _ _ (by have:=hmb.out;omega)) (set7_below (B:=0) (qB 0 _) (Nat.zero_le _) _ _ _ _ _ _ _).size
 ·exact set7_class CK.out _ _ _ _ _ _ _
 ·exact set7_class CM.out _ _ _ _ _ _ _
 ·exact set7_class CD.out _ _ _ _ _ _ _
 ·exact set7_class (CL.out.congr letter_any) _ _ _ _ _ _ _
 ·exact set7_class (CI.out.congr inName_any) _ _ _ _ _ _ _
 ·exact set7_below hbw.out (qL _) _ _ _ _ _ _ _
theorem ReaderFrom.kept {g:Nat} {w w1:World} {b:Nat} {v1 v2 v3 v4 v5:Value} (h:ReaderFrom g w b v1 v2 v3 v4 v5) (hk:∀k,g≤k→k<w.heap.size→w1.heap[k]?=w.heap[k]?) (hs:w.heap.size≤w1.heap.size):ReaderFrom g w1 b v1 v2 v3 v4 v5 :=
 ⟨h.1,h.2.1.kept (hk b h.1 h.2.1.1) hs,h.2.2.1.kept hk hs (qL _),h.2.2.2.1.kept hk hs (qL _),h.2.2.2.2.1.kept hk hs (qL _),h.2.2.2.2.2.1.kept hk hs (qL _),h.2.2.2.2.2.2.kept hk hs (qL _)⟩
end Go.Proofs.YtpfmlfcaadnnpaaGreatDoor.Lx
