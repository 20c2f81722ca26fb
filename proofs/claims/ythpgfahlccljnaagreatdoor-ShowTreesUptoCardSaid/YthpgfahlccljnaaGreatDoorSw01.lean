import Derived.Test.YthpgfahlccljnaaGreatDoorSw00
import Derived.Outline
import Derived.Lib.Hide
import Derived.Lib.Strings
import Derived.Below
import Derived.Deep.Draws
import Derived.BigGuardPart
import Derived.WalkSpells
import Derived.WalkLawsBesides
set_option maxHeartbeats 16000000
set_option maxRecDepth 100000
open Go.Proofs.Tryz(prog)
namespace Go.Proofs.YthpgfahlccljnaaGreatDoor
open Go.RowKit
theorem str_nil_size:(str []).size=0:=rfl
theorem str_nil_empty:(str []).toList.isEmpty=true:=by decide +kernel
theorem str_at (l:List UInt8) {j:Nat} {c:UInt8} (h:l[j]?=some c) (hj:j<(str l).size):(str l)[j]'hj=c:=by
 obtain⟨h1,h2⟩:=List.getElem?_eq_some_iff.1 h
 rw[←h2];rfl
theorem str_toList (l:List UInt8):(str l).toList=l:=by rw[Lib.toList_data];rfl
theorem str_some_empty (l:List UInt8) (h:0<l.length):(str l).toList.isEmpty=false:=by
 rw[str_toList];cases l with
 | nil=>simp at h
 | cons x r=>rfl
theorem str_extract (l:List UInt8) (j:Nat):(str l).extract 0 j=str (l.take j):=by rw[Lib.extract_eq];rfl
theorem str_three (a f:List UInt8) (c:UInt8):str a++⟨#[46]⟩++str (f++[c])=str (a++tail (f++[c])):=by
 rw[show(⟨#[46]⟩:ByteArray)=str [46] from rfl,str_cat,str_cat,tail,if_neg (by simp),List.append_assoc]
 rfl
def strLen:Value→Nat | .string s=>s.size | _=>0
def StrPost (l:List UInt8) (w:World) (e:Ending) (w':World):Prop:=e=.returned (.string (str l))∧Below w.heap.size w w'
theorem below_ald {a w:World} (h:Below a.heap.size a w) (o:Obj):Below a.heap.size a (w.alloc o):=h.alloc h.size o
theorem short_pos_mid (u:Nat) (hu:(u:Int)≤9223372036854775807) (N:Nat) (hN:(N:Int)≤32) (α0 β0:Nat) (w:World) (ea:(u:Int) / 4294967296=(α0:Int)) (eb:(u:Int) % 4294967296=(β0:Int)) (hα0:(α0:Int)≤2147483648) (hβ0:Hid (β0<4294967296)) :
  Calls prog 43 #[.int .i64 (u:Int),.int .i64 (N:Int)] w fun e w'=>StrPost ([]++digs α0++tail (strip (frac N β0))) w e w':=by
 obtain⟨R,hR⟩:∃R,R=[]++digs α0++tail (strip (frac N β0)):=⟨_,rfl⟩
 rw[←hR]
 have RE:=Hd hR
 have EB:=Hd eb
 clear hR eb
 have q0:decide ((u:Int)<0)=false:=qF (by omega)
 have n0:decide ((N:Int)<0)=false:=qF (by omega)
 have n1:decide (32<(N:Int))=false:=qF (by omega)
 go_enter Tryz.func43,Tryz.ntmps43
 go_wp2_with fail
 go_loopw [7,9] (fun a d wr=>∃(α:Nat) (δ:List UInt8),Hid (digs α0=digs α++δ)∧Hid (δ.length+α≤α0)∧(α:Int)≤2147483648∧a=.int .u64 α∧d=.string (str δ)∧Hid (Below w.heap.size w wr)) (fun a _ _=>(intOf a).toNat)
 case atStart=>exact⟨α0,[],Hd (by rw[List.append_nil]),Hd (by simp),hα0,rfl,rfl,Hd (qB _ _)⟩
 case round =>
  rename_i wr
  obtain⟨α,δ,hd,hl,hα,rfl,rfl,hb⟩:=hrel
  obtain⟨x,hx⟩:∃x:Nat,x=α % 10:=⟨_,rfl⟩
  obtain⟨y,hy⟩:∃y:Nat,y=α / 10:=⟨_,rfl⟩
  have L1:=Hd (show [dg x].length+δ.length≤9223372036854775807 by have:=hl.out;simp;omega)
  by_cases hα:10≤α
  ·have x1:(α:Int) % 10=(x:Int):=by omega
   have x2:(x:Int)≤9:=by omega
   have y1:(α:Int) / 10=(y:Int):=by omega
   have y2:(y:Int)≤2147483648:=by omega
   have z1:(10:Int)≤(α:Int):=by omega
   have D2:=Hd (show digs α0=digs y++([dg x]++δ) by rw[hd.out,digs_step hα,hx,hy,List.append_assoc])
   have L2:=Hd (show([dg x]++δ).length+y≤α0 by have:=hl.out;simp;omega)
   have lt:=Hd (show y<α by omega)
   clear hx hy hα
   go_wp2_with (first
    | (refine wpList_byte _ rfl (.tmp 35) rfl _ (dg x) (byteOf_dg x) rfl ?_)
    | (refine wpList_cat _ rfl (.tmp 36) (.tmp 37) rfl [dg x] δ rfl rfl L1.out ?_))
   go_roundw
   case rel=>exact⟨y,dg x :: δ,D2,L2,y2,rfl,rfl,Hd (below_ald hb.out _)⟩
   case measure=>have:=lt.out;simp[intOf];omega
  ·have x2:(α:Int)≤9:=by omega
   have D2:=Hd (show digs α0=[dg α]++δ by rw[hd.out,digs_small (by omega)])
   have L3:=Hd (show([]:List UInt8).length+[dg α].length≤9223372036854775807 by simp)
   have L4:=Hd (show([]++[dg α]:List UInt8).length+δ.length≤9223372036854775807 by have:=hl.out;simp;omega)
   clear hx hy hα
   go_wp2_with (first
    | (refine wpList_byte _ rfl (.tmp 45) rfl _ (dg α) (byteOf_dg α) rfl ?_)
    | (refine wpList_cat _ rfl (.tmp 41) (.tmp 46) rfl [] [dg α] rfl rfl L3.out ?_)
    | (refine wpList_cat _ rfl (.tmp 47) (.tmp 48) rfl ([]++[dg α]) δ rfl rfl L4.out ?_))
   have O3:=hd
   go_loopw [11,8,10] (fun i b f wr2=>∃(κ:Nat),κ≤N∧i=.int .i64 κ∧b=.int .u64 (rest κ β0:Nat)∧f=.string (str (frac κ β0))∧Hid (Below w.heap.size w wr2)) (fun i _ _ _=>N-(intOf i).toNat)
   case atStart=>exact⟨0,Nat.zero_le _,rfl,congrArg (Value.int .u64) EB.out,rfl,Hd (below_ald hb.out _)⟩
   case round =>
    rename_i wr2
    obtain⟨κ,hκ,rfl,rfl,rfl,hb2⟩:=hrel
    have hrl:=rest_lt κ hβ0.out
    by_cases hlt:κ<N
    ·have z1:decide (κ<N)=true:=qT hlt
     have z2:(κ:Int)<(N:Int):=by omega
     have r1:((rest κ β0:Nat):Int)≤4294967295:=by omega
     obtain⟨β,hβ⟩:∃β,β=rest κ β0:=⟨_,rfl⟩
     rw[←hβ] at r1 hrl ⊢
     obtain⟨x',hx'⟩:∃x':Nat,x'=β*10 / 4294967296:=⟨_,rfl⟩
     obtain⟨y',hy'⟩:∃y':Nat,y'=β*10 % 4294967296:=⟨_,rfl⟩
     have x1:(β:Int)*10 / 4294967296=(x':Int):=by omega
     have x2:(x':Int)≤9:=by omega
     have y1:(β:Int)*10 % 4294967296=(y':Int):=by omega
     have Y1:=Hd y1
     have F2:=Hd (show frac (κ+1) β0=frac κ β0++[dg x'] by rw[frac_snoc,←hβ,←hx'])
     have R2:=Hd (show rest (κ+1) β0=y' by rw[rest_succ,←hβ,←hy'])
     have L5:=Hd (show(frac κ β0).length+[dg x'].length≤9223372036854775807 by rw[frac_length];simp;omega)
     generalize frac κ β0=φ at *
     clear hβ hx' hy' hrl y1
     go_wp2_with (first
      | (refine wpList_byte _ rfl (.tmp 62) rfl _ (dg x') (byteOf_dg x') rfl ?_)
      | (refine wpList_cat _ rfl (.tmp 57) (.tmp 63) rfl φ [dg x'] rfl rfl L5.out ?_))
     go_roundw
     case rel=>exact⟨κ+1,by omega,by go_num,congrArg (Value.int .u64) (by rw[R2.out];first | exact Y1.out | rfl),by rw[F2.out],Hd (below_ald hb2.out _)⟩
     case measure=>simp[intOf];omega
    ·have hκ3:N=κ:=by omega
     subst hκ3
     have z1:decide (N<N)=false:=by simp
     clear hlt
     obtain⟨f,hf⟩:∃f,f=frac N β0:=⟨_,rfl⟩
     have hfl:f.length=N:=by rw[hf,frac_length]
     rw[←hf]
     have FE:=Hd hf;have FL:=Hd hfl
     clear hf hfl hrl
     go_wp2_with fail
     go_loop [10] (fun s=>∃j:Nat,j≤N∧Hid (strip f=strip (f.take j))∧s=.string (str (f.take j))) (fun s=>strLen s)
     case atStart=>exact⟨N,qL _,Hd (by rw[List.take_of_length_le (by rw[FL.out];exact qL _)]),by rw[List.take_of_length_le (by rw[FL.out];exact qL _)]⟩
     case round =>
      obtain⟨j,hj,hs,rfl⟩:=hrel
      have A1:=Hd (show(str (dg α :: δ)).size≤9223372036854775000 by rw[str_size];have:=hl.out;simp;omega)
      have RR:R=(dg α :: δ)++tail (strip (f.take j)):=by rw[RE.out,FE.out.symm,←hs.out,D2.out];rfl
      have RH:=Hd RR
      clear RR
      rcases j with _ | j
      ·rw[List.take_zero] at *
       have e1:=str_nil_size
       have e2:=str_nil_empty
       generalize str []=σ at *
       go_wp2_with fail
       go_ret
       refine⟨?_,hb2.out⟩
       rw[RH.out,strip_nil]
       simp[tail]
      ·have hjl:j<f.length:=by rw[FL.out];omega
       obtain⟨c,hc⟩:∃c,f[j]?=some c:=⟨_,List.getElem?_eq_getElem hjl⟩
       have tk:=take_at hc
       have js:(str (f.take (j+1))).size=j+1:=by rw[str_size,List.length_take,FL.out];omega
       have jc:∀h:j<(str (f.take (j+1))).size,(str (f.take (j+1)))[j]'h=c:=fun h=>str_at _ (by rw[List.getElem?_take,if_pos (by omega)];exact hc) h
       have je:(str (f.take (j+1))).toList.isEmpty=false:=str_some_empty _ (by rw[List.length_take,FL.out];omega)
       have jx:=Hd (show(str (f.take (j+1))).extract 0 j=str (f.take j) by rw[str_extract,List.take_take,Nat.min_eq_left (by omega)])
       have TK:=Hd tk
       obtain⟨σ,hσ⟩:∃σ,σ=str (f.take (j+1)):=⟨_,rfl⟩
       rw[←hσ] at js jc je jx ⊢
       have SG:=Hd hσ
       have a1:=A1.out
       generalize hτ:str (dg α :: δ)=τ at *
       have TT:=Hd hτ
       clear tk hc hjl hσ hτ
       by_cases h48:c=48
       ·have z48:((c.toNat:Int) ==48)=true:=by rw[h48];rfl
        have S2:=Hd (show strip f=strip (f.take j) by rw[hs.out,TK.out,h48,strip_zero])
        clear h48
        go_wp2_with fail
        go_round
        case rel=>exact⟨j,by omega,S2,by rw[jx.out]⟩
        case measure=>simp only[strLen];rw[jx.out,js,str_size,List.length_take,FL.out];omega
       ·have z48:((c.toNat:Int) ==48)=false:=beq_false_of_ne (by intro e;apply h48;apply UInt8.toNat_inj.1;show c.toNat=48;omega)
        have S2:=Hd (show strip (f.take (j+1))=f.take j++[c] by rw[TK.out,strip_other _ h48])
        clear h48
        go_wp2_with fail
        go_ret
        refine⟨congrArg Ending.returned (congrArg Value.string ?_),hb2.out⟩
        rw[RH.out,S2.out,←TT.out,SG.out,TK.out]
        exact str_three _ _ _
theorem short_pos_neg (u:Nat) (hu:(u:Int)≤9223372036854775807) (n:Int) (zn1:decide (n<0)=true) (α0 β0:Nat) (w:World) (ea:(u:Int) / 4294967296=(α0:Int)) (eb:(u:Int) % 4294967296=(β0:Int)) (hα0:(α0:Int)≤2147483648) (hβ0:Hid (β0<4294967296)) :
  Calls prog 43 #[.int .i64 (u:Int),.int .i64 n] w fun e w'=>StrPost ([]++digs α0++tail (strip (frac 0 β0))) w e w':=by
 obtain⟨R,hR⟩:∃R,R=[]++digs α0++tail (strip (frac 0 β0)):=⟨_,rfl⟩
 rw[←hR]
 have RE:=Hd hR
 have EB:=Hd eb
 clear hR eb
 have q0:decide ((u:Int)<0)=false:=qF (by omega)
 go_enter Tryz.func43,Tryz.ntmps43
 go_wp2_with fail
 go_loopw [7,9] (fun a d wr=>∃(α:Nat) (δ:List UInt8),Hid (digs α0=digs α++δ)∧Hid (δ.length+α≤α0)∧(α:Int)≤2147483648∧a=.int .u64 α∧d=.string (str δ)∧Hid (Below w.heap.size w wr)) (fun a _ _=>(intOf a).toNat)
 case atStart=>exact⟨α0,[],Hd (by rw[List.append_nil]),Hd (by simp),hα0,rfl,rfl,Hd (qB _ _)⟩
 case round =>
  rename_i wr
  obtain⟨α,δ,hd,hl,hα,rfl,rfl,hb⟩:=hrel
  obtain⟨x,hx⟩:∃x:Nat,x=α % 10:=⟨_,rfl⟩
  obtain⟨y,hy⟩:∃y:Nat,y=α / 10:=⟨_,rfl⟩
  have L1:=Hd (show [dg x].length+δ.length≤9223372036854775807 by have:=hl.out;simp;omega)
  by_cases hα:10≤α
  ·have x1:(α:Int) % 10=(x:Int):=by omega
   have x2:(x:Int)≤9:=by omega
   have y1:(α:Int) / 10=(y:Int):=by omega
   have y2:(y:Int)≤2147483648:=by omega
   have z1:(10:Int)≤(α:Int):=by omega
   have D2:=Hd (show digs α0=digs y++([dg x]++δ) by rw[hd.out,digs_step hα,hx,hy,List.append_assoc])
   have L2:=Hd (show([dg x]++δ).length+y≤α0 by have:=hl.out;simp;omega)
   have lt:=Hd (show y<α by omega)
   clear hx hy hα
   go_wp2_with (first
    | (refine wpList_byte _ rfl (.tmp 35) rfl _ (dg x) (byteOf_dg x) rfl ?_)
    | (refine wpList_cat _ rfl (.tmp 36) (.tmp 37) rfl [dg x] δ rfl rfl L1.out ?_))
   go_roundw
   case rel=>exact⟨y,dg x :: δ,D2,L2,y2,rfl,rfl,Hd (below_ald hb.out _)⟩
   case measure=>have:=lt.out;simp[intOf];omega
  ·have x2:(α:Int)≤9:=by omega
   have D2:=Hd (show digs α0=[dg α]++δ by rw[hd.out,digs_small (by omega)])
   have L3:=Hd (show([]:List UInt8).length+[dg α].length≤9223372036854775807 by simp)
   have L4:=Hd (show([]++[dg α]:List UInt8).length+δ.length≤9223372036854775807 by have:=hl.out;simp;omega)
   clear hx hy hα
   go_wp2_with (first
    | (refine wpList_byte _ rfl (.tmp 45) rfl _ (dg α) (byteOf_dg α) rfl ?_)
    | (refine wpList_cat _ rfl (.tmp 41) (.tmp 46) rfl [] [dg α] rfl rfl L3.out ?_)
    | (refine wpList_cat _ rfl (.tmp 47) (.tmp 48) rfl ([]++[dg α]) δ rfl rfl L4.out ?_))
   have O3:=hd
   go_loopw [11,8,10] (fun i b f wr2=>∃(κ:Nat),κ≤0∧i=.int .i64 κ∧b=.int .u64 (rest κ β0:Nat)∧f=.string (str (frac κ β0))∧Hid (Below w.heap.size w wr2)) (fun i _ _ _=>0-(intOf i).toNat)
   case atStart=>exact⟨0,Nat.zero_le _,rfl,congrArg (Value.int .u64) EB.out,rfl,Hd (below_ald hb.out _)⟩
   case round =>
    rename_i wr2
    obtain⟨κ,hκ,rfl,rfl,rfl,hb2⟩:=hrel
    have hrl:=rest_lt κ hβ0.out
    by_cases hlt:κ<0
    ·omega
    ·have hκ3:0=κ:=by omega
     subst hκ3
     have z1:decide (0<0)=false:=by simp
     clear hlt
     obtain⟨f,hf⟩:∃f,f=frac 0 β0:=⟨_,rfl⟩
     have hfl:f.length=0:=by rw[hf,frac_length]
     rw[←hf]
     have FE:=Hd hf;have FL:=Hd hfl
     clear hf hfl hrl
     go_wp2_with fail
     go_loop [10] (fun s=>∃j:Nat,j≤0∧Hid (strip f=strip (f.take j))∧s=.string (str (f.take j))) (fun s=>strLen s)
     case atStart=>exact⟨0,qL _,Hd (by rw[List.take_of_length_le (by rw[FL.out];exact qL _)]),by rw[List.take_of_length_le (by rw[FL.out];exact qL _)]⟩
     case round =>
      obtain⟨j,hj,hs,rfl⟩:=hrel
      have A1:=Hd (show(str (dg α :: δ)).size≤9223372036854775000 by rw[str_size];have:=hl.out;simp;omega)
      have RR:R=(dg α :: δ)++tail (strip (f.take j)):=by rw[RE.out,FE.out.symm,←hs.out,D2.out];rfl
      have RH:=Hd RR
      clear RR
      rcases j with _ | j
      ·rw[List.take_zero] at *
       have e1:=str_nil_size
       have e2:=str_nil_empty
       generalize str []=σ at *
       go_wp2_with fail
       go_ret
       refine⟨?_,hb2.out⟩
       rw[RH.out,strip_nil]
       simp[tail]
      ·omega
theorem short_pos_big (u:Nat) (hu:(u:Int)≤9223372036854775807) (n:Int) (zn1:decide (n<0)=false) (zn2:decide (32<n)=true) (α0 β0:Nat) (w:World) (ea:(u:Int) / 4294967296=(α0:Int)) (eb:(u:Int) % 4294967296=(β0:Int)) (hα0:(α0:Int)≤2147483648) (hβ0:Hid (β0<4294967296)) :
  Calls prog 43 #[.int .i64 (u:Int),.int .i64 n] w fun e w'=>StrPost ([]++digs α0++tail (strip (frac 32 β0))) w e w':=by
 obtain⟨R,hR⟩:∃R,R=[]++digs α0++tail (strip (frac 32 β0)):=⟨_,rfl⟩
 rw[←hR]
 have RE:=Hd hR
 have EB:=Hd eb
 clear hR eb
 have q0:decide ((u:Int)<0)=false:=qF (by omega)
 go_enter Tryz.func43,Tryz.ntmps43
 go_wp2_with fail
 go_loopw [7,9] (fun a d wr=>∃(α:Nat) (δ:List UInt8),Hid (digs α0=digs α++δ)∧Hid (δ.length+α≤α0)∧(α:Int)≤2147483648∧a=.int .u64 α∧d=.string (str δ)∧Hid (Below w.heap.size w wr)) (fun a _ _=>(intOf a).toNat)
 case atStart=>exact⟨α0,[],Hd (by rw[List.append_nil]),Hd (by simp),hα0,rfl,rfl,Hd (qB _ _)⟩
 case round =>
  rename_i wr
  obtain⟨α,δ,hd,hl,hα,rfl,rfl,hb⟩:=hrel
  obtain⟨x,hx⟩:∃x:Nat,x=α % 10:=⟨_,rfl⟩
  obtain⟨y,hy⟩:∃y:Nat,y=α / 10:=⟨_,rfl⟩
  have L1:=Hd (show [dg x].length+δ.length≤9223372036854775807 by have:=hl.out;simp;omega)
  by_cases hα:10≤α
  ·have x1:(α:Int) % 10=(x:Int):=by omega
   have x2:(x:Int)≤9:=by omega
   have y1:(α:Int) / 10=(y:Int):=by omega
   have y2:(y:Int)≤2147483648:=by omega
   have z1:(10:Int)≤(α:Int):=by omega
   have D2:=Hd (show digs α0=digs y++([dg x]++δ) by rw[hd.out,digs_step hα,hx,hy,List.append_assoc])
   have L2:=Hd (show([dg x]++δ).length+y≤α0 by have:=hl.out;simp;omega)
   have lt:=Hd (show y<α by omega)
   clear hx hy hα
   go_wp2_with (first
    | (refine wpList_byte _ rfl (.tmp 35) rfl _ (dg x) (byteOf_dg x) rfl ?_)
    | (refine wpList_cat _ rfl (.tmp 36) (.tmp 37) rfl [dg x] δ rfl rfl L1.out ?_))
   go_roundw
   case rel=>exact⟨y,dg x :: δ,D2,L2,y2,rfl,rfl,Hd (below_ald hb.out _)⟩
   case measure=>have:=lt.out;simp[intOf];omega
  ·have x2:(α:Int)≤9:=by omega
   have D2:=Hd (show digs α0=[dg α]++δ by rw[hd.out,digs_small (by omega)])
   have L3:=Hd (show([]:List UInt8).length+[dg α].length≤9223372036854775807 by simp)
   have L4:=Hd (show([]++[dg α]:List UInt8).length+δ.length≤9223372036854775807 by have:=hl.out;simp;omega)
   clear hx hy hα
   go_wp2_with (first
    | (refine wpList_byte _ rfl (.tmp 45) rfl _ (dg α) (byteOf_dg α) rfl ?_)
    | (refine wpList_cat _ rfl (.tmp 41) (.tmp 46) rfl [] [dg α] rfl rfl L3.out ?_)
    | (refine wpList_cat _ rfl (.tmp 47) (.tmp 48) rfl ([]++[dg α]) δ rfl rfl L4.out ?_))
   have O3:=hd
   go_loopw [11,8,10] (fun i b f wr2=>∃(κ:Nat),κ≤32∧i=.int .i64 κ∧b=.int .u64 (rest κ β0:Nat)∧f=.string (str (frac κ β0))∧Hid (Below w.heap.size w wr2)) (fun i _ _ _=>32-(intOf i).toNat)
   case atStart=>exact⟨0,Nat.zero_le _,rfl,congrArg (Value.int .u64) EB.out,rfl,Hd (below_ald hb.out _)⟩
   case round =>
    rename_i wr2
    obtain⟨κ,hκ,rfl,rfl,rfl,hb2⟩:=hrel
    have hrl:=rest_lt κ hβ0.out
    by_cases hlt:κ<32
    ·have z1:decide (κ<32)=true:=qT hlt
     have z2:(κ:Int)<32:=by omega
     have r1:((rest κ β0:Nat):Int)≤4294967295:=by omega
     obtain⟨β,hβ⟩:∃β,β=rest κ β0:=⟨_,rfl⟩
     rw[←hβ] at r1 hrl ⊢
     obtain⟨x',hx'⟩:∃x':Nat,x'=β*10 / 4294967296:=⟨_,rfl⟩
     obtain⟨y',hy'⟩:∃y':Nat,y'=β*10 % 4294967296:=⟨_,rfl⟩
     have x1:(β:Int)*10 / 4294967296=(x':Int):=by omega
     have x2:(x':Int)≤9:=by omega
     have y1:(β:Int)*10 % 4294967296=(y':Int):=by omega
     have Y1:=Hd y1
     have F2:=Hd (show frac (κ+1) β0=frac κ β0++[dg x'] by rw[frac_snoc,←hβ,←hx'])
     have R2:=Hd (show rest (κ+1) β0=y' by rw[rest_succ,←hβ,←hy'])
     have L5:=Hd (show(frac κ β0).length+[dg x'].length≤9223372036854775807 by rw[frac_length];simp;omega)
     generalize frac κ β0=φ at *
     clear hβ hx' hy' hrl y1
     go_wp2_with (first
      | (refine wpList_byte _ rfl (.tmp 62) rfl _ (dg x') (byteOf_dg x') rfl ?_)
      | (refine wpList_cat _ rfl (.tmp 57) (.tmp 63) rfl φ [dg x'] rfl rfl L5.out ?_))
     go_roundw
     case rel=>exact⟨κ+1,by omega,by go_num,congrArg (Value.int .u64) (by rw[R2.out];first | exact Y1.out | rfl),by rw[F2.out],Hd (below_ald hb2.out _)⟩
     case measure=>simp[intOf];omega
    ·have hκ3:32=κ:=by omega
     subst hκ3
     have z1:decide (32<32)=false:=by simp
     clear hlt
     obtain⟨f,hf⟩:∃f,f=frac 32 β0:=⟨_,rfl⟩
     have hfl:f.length=32:=by rw[hf,frac_length]
     rw[←hf]
     have FE:=Hd hf;have FL:=Hd hfl
     clear hf hfl hrl
     go_wp2_with fail
     go_loop [10] (fun s=>∃j:Nat,j≤32∧Hid (strip f=strip (f.take j))∧s=.string (str (f.take j))) (fun s=>strLen s)
     case atStart=>exact⟨32,qL _,Hd (by rw[List.take_of_length_le (by rw[FL.out];exact qL _)]),by rw[List.take_of_length_le (by rw[FL.out];exact qL _)]⟩
     case round =>
      obtain⟨j,hj,hs,rfl⟩:=hrel
      have A1:=Hd (show(str (dg α :: δ)).size≤9223372036854775000 by rw[str_size];have:=hl.out;simp;omega)
      have RR:R=(dg α :: δ)++tail (strip (f.take j)):=by rw[RE.out,FE.out.symm,←hs.out,D2.out];rfl
      have RH:=Hd RR
      clear RR
      rcases j with _ | j
      ·rw[List.take_zero] at *
       have e1:=str_nil_size
       have e2:=str_nil_empty
       generalize str []=σ at *
       go_wp2_with fail
       go_ret
       refine⟨?_,hb2.out⟩
       rw[RH.out,strip_nil]
       simp[tail]
      ·have hjl:j<f.length:=by rw[FL.out];omega
       obtain⟨c,hc⟩:∃c,f[j]?=some c:=⟨_,List.getElem?_eq_getElem hjl⟩
       have tk:=take_at hc
       have js:(str (f.take (j+1))).size=j+1:=by rw[str_size,List.length_take,FL.out];omega
       have jc:∀h:j<(str (f.take (j+1))).size,(str (f.take (j+1)))[j]'h=c:=fun h=>str_at _ (by rw[List.getElem?_take,if_pos (by omega)];exact hc) h
       have je:(str (f.take (j+1))).toList.isEmpty=false:=str_some_empty _ (by rw[List.length_take,FL.out];omega)
       have jx:=Hd (show(str (f.take (j+1))).extract 0 j=str (f.take j) by rw[str_extract,List.take_take,Nat.min_eq_left (by omega)])
       have TK:=Hd tk
       obtain⟨σ,hσ⟩:∃σ,σ=str (f.take (j+1)):=⟨_,rfl⟩
       rw[←hσ] at js jc je jx ⊢
       have SG:=Hd hσ
       have a1:=A1.out
       generalize hτ:str (dg α :: δ)=τ at *
       have TT:=Hd hτ
       clear tk hc hjl hσ hτ
       by_cases h48:c=48
       ·have z48:((c.toNat:Int) ==48)=true:=by rw[h48];rfl
        have S2:=Hd (show strip f=strip (f.take j) by rw[hs.out,TK.out,h48,strip_zero])
        clear h48
        go_wp2_with fail
        go_round
        case rel=>exact⟨j,by omega,S2,by rw[jx.out]⟩
        case measure=>simp only[strLen];rw[jx.out,js,str_size,List.length_take,FL.out];omega
       ·have z48:((c.toNat:Int) ==48)=false:=beq_false_of_ne (by intro e;apply h48;apply UInt8.toNat_inj.1;show c.toNat=48;omega)
        have S2:=Hd (show strip (f.take (j+1))=f.take j++[c] by rw[TK.out,strip_other _ h48])
        clear h48
        go_wp2_with fail
        go_ret
        refine⟨congrArg Ending.returned (congrArg Value.string ?_),hb2.out⟩
        rw[RH.out,S2.out,←TT.out,SG.out,TK.out]
        exact str_three _ _ _
theorem short_below_mid (q:Int) (u:Nat) (hq0:q<0) (hq1:-9223372036854775808≤q) (eq1:-(q+1)+1=(u:Int)) (N:Nat) (hN:(N:Int)≤32) (α0 β0:Nat) (w:World) (ea:(u:Int) / 4294967296=(α0:Int)) (eb:(u:Int) % 4294967296=(β0:Int)) (hα0:(α0:Int)≤2147483648) (hβ0:Hid (β0<4294967296)) :
  Calls prog 43 #[.int .i64 q,.int .i64 (N:Int)] w fun e w'=>StrPost ([45]++digs α0++tail (strip (frac N β0))) w e w':=by
 obtain⟨R,hR⟩:∃R,R=[45]++digs α0++tail (strip (frac N β0)):=⟨_,rfl⟩
 rw[←hR]
 have RE:=Hd hR
 have EB:=Hd eb
 clear hR eb
 have q0:decide (q<0)=true:=qT hq0
 have n0:decide ((N:Int)<0)=false:=qF (by omega)
 have n1:decide (32<(N:Int))=false:=qF (by omega)
 go_enter Tryz.func43,Tryz.ntmps43
 go_wp2_with fail
 go_loopw [7,9] (fun a d wr=>∃(α:Nat) (δ:List UInt8),Hid (digs α0=digs α++δ)∧Hid (δ.length+α≤α0)∧(α:Int)≤2147483648∧a=.int .u64 α∧d=.string (str δ)∧Hid (Below w.heap.size w wr)) (fun a _ _=>(intOf a).toNat)
 case atStart=>exact⟨α0,[],Hd (by rw[List.append_nil]),Hd (by simp),hα0,rfl,rfl,Hd (qB _ _)⟩
 case round =>
  rename_i wr
  obtain⟨α,δ,hd,hl,hα,rfl,rfl,hb⟩:=hrel
  obtain⟨x,hx⟩:∃x:Nat,x=α % 10:=⟨_,rfl⟩
  obtain⟨y,hy⟩:∃y:Nat,y=α / 10:=⟨_,rfl⟩
  have L1:=Hd (show [dg x].length+δ.length≤9223372036854775807 by have:=hl.out;simp;omega)
  by_cases hα:10≤α
  ·have x1:(α:Int) % 10=(x:Int):=by omega
   have x2:(x:Int)≤9:=by omega
   have y1:(α:Int) / 10=(y:Int):=by omega
   have y2:(y:Int)≤2147483648:=by omega
   have z1:(10:Int)≤(α:Int):=by omega
   have D2:=Hd (show digs α0=digs y++([dg x]++δ) by rw[hd.out,digs_step hα,hx,hy,List.append_assoc])
   have L2:=Hd (show([dg x]++δ).length+y≤α0 by have:=hl.out;simp;omega)
   have lt:=Hd (show y<α by omega)
   clear hx hy hα
   go_wp2_with (first
    | (refine wpList_byte _ rfl (.tmp 35) rfl _ (dg x) (byteOf_dg x) rfl ?_)
    | (refine wpList_cat _ rfl (.tmp 36) (.tmp 37) rfl [dg x] δ rfl rfl L1.out ?_))
   go_roundw
   case rel=>exact⟨y,dg x :: δ,D2,L2,y2,rfl,rfl,Hd (below_ald hb.out _)⟩
   case measure=>have:=lt.out;simp[intOf];omega
  ·have x2:(α:Int)≤9:=by omega
   have D2:=Hd (show digs α0=[dg α]++δ by rw[hd.out,digs_small (by omega)])
   have L3:=Hd (show([45]:List UInt8).length+[dg α].length≤9223372036854775807 by simp)
   have L4:=Hd (show([45]++[dg α]:List UInt8).length+δ.length≤9223372036854775807 by have:=hl.out;simp;omega)
   clear hx hy hα
   go_wp2_with (first
    | (refine wpList_byte _ rfl (.tmp 45) rfl _ (dg α) (byteOf_dg α) rfl ?_)
    | (refine wpList_cat _ rfl (.tmp 41) (.tmp 46) rfl [45] [dg α] rfl rfl L3.out ?_)
    | (refine wpList_cat _ rfl (.tmp 47) (.tmp 48) rfl ([45]++[dg α]) δ rfl rfl L4.out ?_))
   have O3:=hd
   go_loopw [11,8,10] (fun i b f wr2=>∃(κ:Nat),κ≤N∧i=.int .i64 κ∧b=.int .u64 (rest κ β0:Nat)∧f=.string (str (frac κ β0))∧Hid (Below w.heap.size w wr2)) (fun i _ _ _=>N-(intOf i).toNat)
   case atStart=>exact⟨0,Nat.zero_le _,rfl,congrArg (Value.int .u64) EB.out,rfl,Hd (below_ald hb.out _)⟩
   case round =>
    rename_i wr2
    obtain⟨κ,hκ,rfl,rfl,rfl,hb2⟩:=hrel
    have hrl:=rest_lt κ hβ0.out
    by_cases hlt:κ<N
    ·have z1:decide (κ<N)=true:=qT hlt
     have z2:(κ:Int)<(N:Int):=by omega
     have r1:((rest κ β0:Nat):Int)≤4294967295:=by omega
     obtain⟨β,hβ⟩:∃β,β=rest κ β0:=⟨_,rfl⟩
     rw[←hβ] at r1 hrl ⊢
     obtain⟨x',hx'⟩:∃x':Nat,x'=β*10 / 4294967296:=⟨_,rfl⟩
     obtain⟨y',hy'⟩:∃y':Nat,y'=β*10 % 4294967296:=⟨_,rfl⟩
     have x1:(β:Int)*10 / 4294967296=(x':Int):=by omega
     have x2:(x':Int)≤9:=by omega
     have y1:(β:Int)*10 % 4294967296=(y':Int):=by omega
     have Y1:=Hd y1
     have F2:=Hd (show frac (κ+1) β0=frac κ β0++[dg x'] by rw[frac_snoc,←hβ,←hx'])
     have R2:=Hd (show rest (κ+1) β0=y' by rw[rest_succ,←hβ,←hy'])
     have L5:=Hd (show(frac κ β0).length+[dg x'].length≤9223372036854775807 by rw[frac_length];simp;omega)
     generalize frac κ β0=φ at *
     clear hβ hx' hy' hrl y1
     go_wp2_with (first
      | (refine wpList_byte _ rfl (.tmp 62) rfl _ (dg x') (byteOf_dg x') rfl ?_)
      | (refine wpList_cat _ rfl (.tmp 57) (.tmp 63) rfl φ [dg x'] rfl rfl L5.out ?_))
     go_roundw
     case rel=>exact⟨κ+1,by omega,by go_num,congrArg (Value.int .u64) (by rw[R2.out];first | exact Y1.out | rfl),by rw[F2.out],Hd (below_ald hb2.out _)⟩
     case measure=>simp[intOf];omega
    ·have hκ3:N=κ:=by omega
     subst hκ3
     have z1:decide (N<N)=false:=by simp
     clear hlt
     obtain⟨f,hf⟩:∃f,f=frac N β0:=⟨_,rfl⟩
     have hfl:f.length=N:=by rw[hf,frac_length]
     rw[←hf]
     have FE:=Hd hf;have FL:=Hd hfl
     clear hf hfl hrl
     go_wp2_with fail
     go_loop [10] (fun s=>∃j:Nat,j≤N∧Hid (strip f=strip (f.take j))∧s=.string (str (f.take j))) (fun s=>strLen s)
     case atStart=>exact⟨N,qL _,Hd (by rw[List.take_of_length_le (by rw[FL.out];exact qL _)]),by rw[List.take_of_length_le (by rw[FL.out];exact qL _)]⟩
     case round =>
      obtain⟨j,hj,hs,rfl⟩:=hrel
      have A1:=Hd (show(str (45 :: dg α :: δ)).size≤9223372036854775000 by rw[str_size];have:=hl.out;simp;omega)
      have RR:R=(45 :: dg α :: δ)++tail (strip (f.take j)):=by rw[RE.out,FE.out.symm,←hs.out,D2.out];rfl
      have RH:=Hd RR
      clear RR
      rcases j with _ | j
      ·rw[List.take_zero] at *
       have e1:=str_nil_size
       have e2:=str_nil_empty
       generalize str []=σ at *
       go_wp2_with fail
       go_ret
       refine⟨?_,hb2.out⟩
       rw[RH.out,strip_nil]
       simp[tail]
      ·have hjl:j<f.length:=by rw[FL.out];omega
       obtain⟨c,hc⟩:∃c,f[j]?=some c:=⟨_,List.getElem?_eq_getElem hjl⟩
       have tk:=take_at hc
       have js:(str (f.take (j+1))).size=j+1:=by rw[str_size,List.length_take,FL.out];omega
       have jc:∀h:j<(str (f.take (j+1))).size,(str (f.take (j+1)))[j]'h=c:=fun h=>str_at _ (by rw[List.getElem?_take,if_pos (by omega)];exact hc) h
       have je:(str (f.take (j+1))).toList.isEmpty=false:=str_some_empty _ (by rw[List.length_take,FL.out];omega)
       have jx:=Hd (show(str (f.take (j+1))).extract 0 j=str (f.take j) by rw[str_extract,List.take_take,Nat.min_eq_left (by omega)])
       have TK:=Hd tk
       obtain⟨σ,hσ⟩:∃σ,σ=str (f.take (j+1)):=⟨_,rfl⟩
       rw[←hσ] at js jc je jx ⊢
       have SG:=Hd hσ
       have a1:=A1.out
       generalize hτ:str (45 :: dg α :: δ)=τ at *
       have TT:=Hd hτ
       clear tk hc hjl hσ hτ
       by_cases h48:c=48
       ·have z48:((c.toNat:Int) ==48)=true:=by rw[h48];rfl
        have S2:=Hd (show strip f=strip (f.take j) by rw[hs.out,TK.out,h48,strip_zero])
        clear h48
        go_wp2_with fail
        go_round
        case rel=>exact⟨j,by omega,S2,by rw[jx.out]⟩
        case measure=>simp only[strLen];rw[jx.out,js,str_size,List.length_take,FL.out];omega
       ·have z48:((c.toNat:Int) ==48)=false:=beq_false_of_ne (by intro e;apply h48;apply UInt8.toNat_inj.1;show c.toNat=48;omega)
        have S2:=Hd (show strip (f.take (j+1))=f.take j++[c] by rw[TK.out,strip_other _ h48])
        clear h48
        go_wp2_with fail
        go_ret
        refine⟨congrArg Ending.returned (congrArg Value.string ?_),hb2.out⟩
        rw[RH.out,S2.out,←TT.out,SG.out,TK.out]
        exact str_three _ _ _
theorem short_below_neg (q:Int) (u:Nat) (hq0:q<0) (hq1:-9223372036854775808≤q) (eq1:-(q+1)+1=(u:Int)) (n:Int) (zn1:decide (n<0)=true) (α0 β0:Nat) (w:World) (ea:(u:Int) / 4294967296=(α0:Int)) (eb:(u:Int) % 4294967296=(β0:Int)) (hα0:(α0:Int)≤2147483648) (hβ0:Hid (β0<4294967296)) :
  Calls prog 43 #[.int .i64 q,.int .i64 n] w fun e w'=>StrPost ([45]++digs α0++tail (strip (frac 0 β0))) w e w':=by
 obtain⟨R,hR⟩:∃R,R=[45]++digs α0++tail (strip (frac 0 β0)):=⟨_,rfl⟩
 rw[←hR]
 have RE:=Hd hR
 have EB:=Hd eb
 clear hR eb
 have q0:decide (q<0)=true:=qT hq0
 go_enter Tryz.func43,Tryz.ntmps43
 go_wp2_with fail
 go_loopw [7,9] (fun a d wr=>∃(α:Nat) (δ:List UInt8),Hid (digs α0=digs α++δ)∧Hid (δ.length+α≤α0)∧(α:Int)≤2147483648∧a=.int .u64 α∧d=.string (str δ)∧Hid (Below w.heap.size w wr)) (fun a _ _=>(intOf a).toNat)
 case atStart=>exact⟨α0,[],Hd (by rw[List.append_nil]),Hd (by simp),hα0,rfl,rfl,Hd (qB _ _)⟩
 case round =>
  rename_i wr
  obtain⟨α,δ,hd,hl,hα,rfl,rfl,hb⟩:=hrel
  obtain⟨x,hx⟩:∃x:Nat,x=α % 10:=⟨_,rfl⟩
  obtain⟨y,hy⟩:∃y:Nat,y=α / 10:=⟨_,rfl⟩
  have L1:=Hd (show [dg x].length+δ.length≤9223372036854775807 by have:=hl.out;simp;omega)
  by_cases hα:10≤α
  ·have x1:(α:Int) % 10=(x:Int):=by omega
   have x2:(x:Int)≤9:=by omega
   have y1:(α:Int) / 10=(y:Int):=by omega
   have y2:(y:Int)≤2147483648:=by omega
   have z1:(10:Int)≤(α:Int):=by omega
   have D2:=Hd (show digs α0=digs y++([dg x]++δ) by rw[hd.out,digs_step hα,hx,hy,List.append_assoc])
   have L2:=Hd (show([dg x]++δ).length+y≤α0 by have:=hl.out;simp;omega)
   have lt:=Hd (show y<α by omega)
   clear hx hy hα
   go_wp2_with (first
    | (refine wpList_byte _ rfl (.tmp 35) rfl _ (dg x) (byteOf_dg x) rfl ?_)
    | (refine wpList_cat _ rfl (.tmp 36) (.tmp 37) rfl [dg x] δ rfl rfl L1.out ?_))
   go_roundw
   case rel=>exact⟨y,dg x :: δ,D2,L2,y2,rfl,rfl,Hd (below_ald hb.out _)⟩
   case measure=>have:=lt.out;simp[intOf];omega
  ·have x2:(α:Int)≤9:=by omega
   have D2:=Hd (show digs α0=[dg α]++δ by rw[hd.out,digs_small (by omega)])
   have L3:=Hd (show([45]:List UInt8).length+[dg α].length≤9223372036854775807 by simp)
   have L4:=Hd (show([45]++[dg α]:List UInt8).length+δ.length≤9223372036854775807 by have:=hl.out;simp;omega)
   clear hx hy hα
   go_wp2_with (first
    | (refine wpList_byte _ rfl (.tmp 45) rfl _ (dg α) (byteOf_dg α) rfl ?_)
    | (refine wpList_cat _ rfl (.tmp 41) (.tmp 46) rfl [45] [dg α] rfl rfl L3.out ?_)
    | (refine wpList_cat _ rfl (.tmp 47) (.tmp 48) rfl ([45]++[dg α]) δ rfl rfl L4.out ?_))
   have O3:=hd
   go_loopw [11,8,10] (fun i b f wr2=>∃(κ:Nat),κ≤0∧i=.int .i64 κ∧b=.int .u64 (rest κ β0:Nat)∧f=.string (str (frac κ β0))∧Hid (Below w.heap.size w wr2)) (fun i _ _ _=>0-(intOf i).toNat)
   case atStart=>exact⟨0,Nat.zero_le _,rfl,congrArg (Value.int .u64) EB.out,rfl,Hd (below_ald hb.out _)⟩
   case round =>
    rename_i wr2
    obtain⟨κ,hκ,rfl,rfl,rfl,hb2⟩:=hrel
    have hrl:=rest_lt κ hβ0.out
    by_cases hlt:κ<0
    ·omega
    ·have hκ3:0=κ:=by omega
     subst hκ3
     have z1:decide (0<0)=false:=by simp
     clear hlt
     obtain⟨f,hf⟩:∃f,f=frac 0 β0:=⟨_,rfl⟩
     have hfl:f.length=0:=by rw[hf,frac_length]
     rw[←hf]
     have FE:=Hd hf;have FL:=Hd hfl
     clear hf hfl hrl
     go_wp2_with fail
     go_loop [10] (fun s=>∃j:Nat,j≤0∧Hid (strip f=strip (f.take j))∧s=.string (str (f.take j))) (fun s=>strLen s)
     case atStart=>exact⟨0,qL _,Hd (by rw[List.take_of_length_le (by rw[FL.out];exact qL _)]),by rw[List.take_of_length_le (by rw[FL.out];exact qL _)]⟩
     case round =>
      obtain⟨j,hj,hs,rfl⟩:=hrel
      have A1:=Hd (show(str (45 :: dg α :: δ)).size≤9223372036854775000 by rw[str_size];have:=hl.out;simp;omega)
      have RR:R=(45 :: dg α :: δ)++tail (strip (f.take j)):=by rw[RE.out,FE.out.symm,←hs.out,D2.out];rfl
      have RH:=Hd RR
      clear RR
      rcases j with _ | j
      ·rw[List.take_zero] at *
       have e1:=str_nil_size
       have e2:=str_nil_empty
       generalize str []=σ at *
       go_wp2_with fail
       go_ret
       refine⟨?_,hb2.out⟩
       rw[RH.out,strip_nil]
       simp[tail]
      ·omega
theorem short_below_big (q:Int) (u:Nat) (hq0:q<0) (hq1:-9223372036854775808≤q) (eq1:-(q+1)+1=(u:Int)) (n:Int) (zn1:decide (n<0)=false) (zn2:decide (32<n)=true) (α0 β0:Nat) (w:World) (ea:(u:Int) / 4294967296=(α0:Int)) (eb:(u:Int) % 4294967296=(β0:Int)) (hα0:(α0:Int)≤2147483648) (hβ0:Hid (β0<4294967296)) :
  Calls prog 43 #[.int .i64 q,.int .i64 n] w fun e w'=>StrPost ([45]++digs α0++tail (strip (frac 32 β0))) w e w':=by
 obtain⟨R,hR⟩:∃R,R=[45]++digs α0++tail (strip (frac 32 β0)):=⟨_,rfl⟩
 rw[←hR]
 have RE:=Hd hR
 have EB:=Hd eb
 clear hR eb
 have q0:decide (q<0)=true:=qT hq0
 go_enter Tryz.func43,Tryz.ntmps43
 go_wp2_with fail
 go_loopw [7,9] (fun a d wr=>∃(α:Nat) (δ:List UInt8),Hid (digs α0=digs α++δ)∧Hid (δ.length+α≤α0)∧(α:Int)≤2147483648∧a=.int .u64 α∧d=.string (str δ)∧Hid (Below w.heap.size w wr)) (fun a _ _=>(intOf a).toNat)
 case atStart=>exact⟨α0,[],Hd (by rw[List.append_nil]),Hd (by simp),hα0,rfl,rfl,Hd (qB _ _)⟩
 case round =>
  rename_i wr
  obtain⟨α,δ,hd,hl,hα,rfl,rfl,hb⟩:=hrel
  obtain⟨x,hx⟩:∃x:Nat,x=α % 10:=⟨_,rfl⟩
  obtain⟨y,hy⟩:∃y:Nat,y=α / 10:=⟨_,rfl⟩
  have L1:=Hd (show [dg x].length+δ.length≤9223372036854775807 by have:=hl.out;simp;omega)
  by_cases hα:10≤α
  ·have x1:(α:Int) % 10=(x:Int):=by omega
   have x2:(x:Int)≤9:=by omega
   have y1:(α:Int) / 10=(y:Int):=by omega
   have y2:(y:Int)≤2147483648:=by omega
   have z1:(10:Int)≤(α:Int):=by omega
   have D2:=Hd (show digs α0=digs y++([dg x]++δ) by rw[hd.out,digs_step hα,hx,hy,List.append_assoc])
   have L2:=Hd (show([dg x]++δ).length+y≤α0 by have:=hl.out;simp;omega)
   have lt:=Hd (show y<α by omega)
   clear hx hy hα
   go_wp2_with (first
    | (refine wpList_byte _ rfl (.tmp 35) rfl _ (dg x) (byteOf_dg x) rfl ?_)
    | (refine wpList_cat _ rfl (.tmp 36) (.tmp 37) rfl [dg x] δ rfl rfl L1.out ?_))
   go_roundw
   case rel=>exact⟨y,dg x :: δ,D2,L2,y2,rfl,rfl,Hd (below_ald hb.out _)⟩
   case measure=>have:=lt.out;simp[intOf];omega
  ·have x2:(α:Int)≤9:=by omega
   have D2:=Hd (show digs α0=[dg α]++δ by rw[hd.out,digs_small (by omega)])
   have L3:=Hd (show([45]:List UInt8).length+[dg α].length≤9223372036854775807 by simp)
   have L4:=Hd (show([45]++[dg α]:List UInt8).length+δ.length≤9223372036854775807 by have:=hl.out;simp;omega)
   clear hx hy hα
   go_wp2_with (first
    | (refine wpList_byte _ rfl (.tmp 45) rfl _ (dg α) (byteOf_dg α) rfl ?_)
    | (refine wpList_cat _ rfl (.tmp 41) (.tmp 46) rfl [45] [dg α] rfl rfl L3.out ?_)
    | (refine wpList_cat _ rfl (.tmp 47) (.tmp 48) rfl ([45]++[dg α]) δ rfl rfl L4.out ?_))
   have O3:=hd
   go_loopw [11,8,10] (fun i b f wr2=>∃(κ:Nat),κ≤32∧i=.int .i64 κ∧b=.int .u64 (rest κ β0:Nat)∧f=.string (str (frac κ β0))∧Hid (Below w.heap.size w wr2)) (fun i _ _ _=>32-(intOf i).toNat)
   case atStart=>exact⟨0,Nat.zero_le _,rfl,congrArg (Value.int .u64) EB.out,rfl,Hd (below_ald hb.out _)⟩
   case round =>
    rename_i wr2
    obtain⟨κ,hκ,rfl,rfl,rfl,hb2⟩:=hrel
    have hrl:=rest_lt κ hβ0.out
    by_cases hlt:κ<32
    ·have z1:decide (κ<32)=true:=qT hlt
     have z2:(κ:Int)<32:=by omega
     have r1:((rest κ β0:Nat):Int)≤4294967295:=by omega
     obtain⟨β,hβ⟩:∃β,β=rest κ β0:=⟨_,rfl⟩
     rw[←hβ] at r1 hrl ⊢
     obtain⟨x',hx'⟩:∃x':Nat,x'=β*10 / 4294967296:=⟨_,rfl⟩
     obtain⟨y',hy'⟩:∃y':Nat,y'=β*10 % 4294967296:=⟨_,rfl⟩
     have x1:(β:Int)*10 / 4294967296=(x':Int):=by omega
     have x2:(x':Int)≤9:=by omega
     have y1:(β:Int)*10 % 4294967296=(y':Int):=by omega
     have Y1:=Hd y1
     have F2:=Hd (show frac (κ+1) β0=frac κ β0++[dg x'] by rw[frac_snoc,←hβ,←hx'])
     have R2:=Hd (show rest (κ+1) β0=y' by rw[rest_succ,←hβ,←hy'])
     have L5:=Hd (show(frac κ β0).length+[dg x'].length≤9223372036854775807 by rw[frac_length];simp;omega)
     generalize frac κ β0=φ at *
     clear hβ hx' hy' hrl y1
     go_wp2_with (first
      | (refine wpList_byte _ rfl (.tmp 62) rfl _ (dg x') (byteOf_dg x') rfl ?_)
      | (refine wpList_cat _ rfl (.tmp 57) (.tmp 63) rfl φ [dg x'] rfl rfl L5.out ?_))
     go_roundw
     case rel=>exact⟨κ+1,by omega,by go_num,congrArg (Value.int .u64) (by rw[R2.out];first | exact Y1.out | rfl),by rw[F2.out],Hd (below_ald hb2.out _)⟩
     case measure=>simp[intOf];omega
    ·have hκ3:32=κ:=by omega
     subst hκ3
     have z1:decide (32<32)=false:=by simp
     clear hlt
     obtain⟨f,hf⟩:∃f,f=frac 32 β0:=⟨_,rfl⟩
     have hfl:f.length=32:=by rw[hf,frac_length]
     rw[←hf]
     have FE:=Hd hf;have FL:=Hd hfl
     clear hf hfl hrl
     go_wp2_with fail
     go_loop [10] (fun s=>∃j:Nat,j≤32∧Hid (strip f=strip (f.take j))∧s=.string (str (f.take j))) (fun s=>strLen s)
     case atStart=>exact⟨32,qL _,Hd (by rw[List.take_of_length_le (by rw[FL.out];exact qL _)]),by rw[List.take_of_length_le (by rw[FL.out];exact qL _)]⟩
     case round =>
      obtain⟨j,hj,hs,rfl⟩:=hrel
      have A1:=Hd (show(str (45 :: dg α :: δ)).size≤9223372036854775000 by rw[str_size];have:=hl.out;simp;omega)
      have RR:R=(45 :: dg α :: δ)++tail (strip (f.take j)):=by rw[RE.out,FE.out.symm,←hs.out,D2.out];rfl
      have RH:=Hd RR
      clear RR
      rcases j with _ | j
      ·rw[List.take_zero] at *
       have e1:=str_nil_size
       have e2:=str_nil_empty
       generalize str []=σ at *
       go_wp2_with fail
       go_ret
       refine⟨?_,hb2.out⟩
       rw[RH.out,strip_nil]
       simp[tail]
      ·have hjl:j<f.length:=by rw[FL.out];omega
       obtain⟨c,hc⟩:∃c,f[j]?=some c:=⟨_,List.getElem?_eq_getElem hjl⟩
       have tk:=take_at hc
       have js:(str (f.take (j+1))).size=j+1:=by rw[str_size,List.length_take,FL.out];omega
       have jc:∀h:j<(str (f.take (j+1))).size,(str (f.take (j+1)))[j]'h=c:=fun h=>str_at _ (by rw[List.getElem?_take,if_pos (by omega)];exact hc) h
       have je:(str (f.take (j+1))).toList.isEmpty=false:=str_some_empty _ (by rw[List.length_take,FL.out];omega)
       have jx:=Hd (show(str (f.take (j+1))).extract 0 j=str (f.take j) by rw[str_extract,List.take_take,Nat.min_eq_left (by omega)])
       have TK:=Hd tk
       obtain⟨σ,hσ⟩:∃σ,σ=str (f.take (j+1)):=⟨_,rfl⟩
       rw[←hσ] at js jc je jx ⊢
       have SG:=Hd hσ
       have a1:=A1.out
       generalize hτ:str (45 :: dg α :: δ)=τ at *
       have TT:=Hd hτ
       clear tk hc hjl hσ hτ
       by_cases h48:c=48
       ·have z48:((c.toNat:Int) ==48)=true:=by rw[h48];rfl
        have S2:=Hd (show strip f=strip (f.take j) by rw[hs.out,TK.out,h48,strip_zero])
        clear h48
        go_wp2_with fail
        go_round
        case rel=>exact⟨j,by omega,S2,by rw[jx.out]⟩
        case measure=>simp only[strLen];rw[jx.out,js,str_size,List.length_take,FL.out];omega
       ·have z48:((c.toNat:Int) ==48)=false:=beq_false_of_ne (by intro e;apply h48;apply UInt8.toNat_inj.1;show c.toNat=48;omega)
        have S2:=Hd (show strip (f.take (j+1))=f.take j++[c] by rw[TK.out,strip_other _ h48])
        clear h48
        go_wp2_with fail
        go_ret
        refine⟨congrArg Ending.returned (congrArg Value.string ?_),hb2.out⟩
        rw[RH.out,S2.out,←TT.out,SG.out,TK.out]
        exact str_three _ _ _
theorem short_ref (q n:Int) (w:World) (h1:-9223372036854775808≤q) (h2:q≤9223372036854775807) :
  Calls prog 43 #[.int .i64 q,.int .i64 n] w fun e w'=>StrPost (shortL q n) w e w':=by
 unfold shortL
 have hb:q.natAbs % 4294967296<4294967296:=Nat.mod_lt _ (by omega)
 rcases Int.lt_or_le q 0 with h0 | h0
 ·rw[if_pos h0]
  have e1:-(q+1)+1=((q.natAbs:Nat):Int):=by omega
  rcases Int.lt_or_le n 0 with hn | hn
  ·have hc:clip n=0:=by unfold clip;omega
   rw[hc]
   exact short_below_neg q q.natAbs h0 h1 e1 n (qT hn) _ _ w (by omega) (by omega) (by omega) (Hd hb)
  ·rcases Int.lt_or_le 32 n with hn2 | hn2
   ·have hc:clip n=32:=by unfold clip;omega
    rw[hc]
    exact short_below_big q q.natAbs h0 h1 e1 n (qF (by omega)) (qT hn2) _ _ w (by omega) (by omega) (by omega) (Hd hb)
   ·obtain⟨N,rfl⟩:=Int.eq_ofNat_of_zero_le hn
    have hc:clip (N:Int)=N:=by unfold clip;omega
    rw[hc]
    exact short_below_mid q q.natAbs h0 h1 e1 N hn2 _ _ w (by omega) (by omega) (by omega) (Hd hb)
 ·rw[if_neg (by omega)]
  obtain⟨u,rfl⟩:=Int.eq_ofNat_of_zero_le h0
  rw[Int.natAbs_natCast] at hb ⊢
  rcases Int.lt_or_le n 0 with hn | hn
  ·have hc:clip n=0:=by unfold clip;omega
   rw[hc]
   exact short_pos_neg u h2 n (qT hn) _ _ w (by omega) (by omega) (by omega) (Hd hb)
  ·rcases Int.lt_or_le 32 n with hn2 | hn2
   ·have hc:clip n=32:=by unfold clip;omega
    rw[hc]
    exact short_pos_big u h2 n (qF (by omega)) (qT hn2) _ _ w (by omega) (by omega) (by omega) (Hd hb)
   ·obtain⟨N,rfl⟩:=Int.eq_ofNat_of_zero_le hn
    have hc:clip (N:Int)=N:=by unfold clip;omega
    rw[hc]
    exact short_pos_mid u h2 N hn2 _ _ w (by omega) (by omega) (by omega) (Hd hb)
end Go.Proofs.YthpgfahlccljnaaGreatDoor
