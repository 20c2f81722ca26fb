import Derived.Test.YtpfmlfcaadnnpaaGreatDoorPg08
import Derived.Deep.QuietTactic
import Derived.Deep.RegionHeld3
import Derived.Deep.RegionWith
set_option maxHeartbeats 16000000
set_option maxRecDepth 100000
set_option linter.unusedVariables false
open Go.Proofs.Tryz(prog)
namespace Go.Proofs.YtpfmlfcaadnnpaaGreatDoor
open Go.RowKit Lx
theorem toks_four {l:List UInt8} {a:Nat} {ts:List Tok} {r:Option Nat} (h:Toks l a ts r):∀t ∈ ts,t.kind≤4:=by
 induction h with
 | fin=>simp
 | bad=>simp
 | tok h1 h2 _ ih =>
  intro t ht
  rcases List.mem_cons.1 ht with rfl | ht
  ·unfold tokAt tokOf
   split
   ·simp
   ·rename_i k n v hk
    exact(oneL_some hk).2.1
  ·exact ih t ht
theorem end_ok {l:List UInt8} {ts:List Tok} {r:Option Nat} (h:lexT l ts r) (n:Nat):EndOk (ts++[endT n]):=by
 refine⟨by simp,fun i t hi=>?_⟩
 rw[List.length_append]
 rcases Nat.lt_or_ge i ts.length with h1 | h1
 ·rw[List.getElem?_append_left h1] at hi
  have:=toks_four h t (List.mem_of_getElem? hi)
  simp;omega
 ·rw[List.getElem?_append_right h1] at hi
  have h2:i-ts.length=0:=by
   rcases Nat.eq_zero_or_pos (i-ts.length) with h3 | h3
   ·exact h3
   ·rw[List.getElem?_eq_none (by simp;omega)] at hi;cases hi
  rw[h2] at hi
  obtain rfl:endT n=t:=by simpa using hi
  simp[endT];omega
theorem ref_lex_any:RefLex:=ref_lex (ref_one (ref_signed ref_size))
def rs0:RS:=⟨0,[],0,0,0⟩
theorem ExsOwn.base {W:World} {b B:Nat} {xb:Nat→Prop} {v:Value} {l:List Ex} (h:ExsOwn W b xb v l) (hb:B≤b):ExsOwn W B xb v l:=by
 obtain⟨q,h1,h2,h3⟩:=h
 exact⟨q,h1,own_base h2 (by omega),fun p hp=>⟨own_base (h3 p hp).1 (by omega),(h3 p hp).2⟩⟩
end Go.Proofs.YtpfmlfcaadnnpaaGreatDoor
namespace Go.Proofs.YtpfmlfcaadnnpaaGreatDoor
open Go.RowKit Lx
theorem parseL_le (l:List UInt8):((parseL l).1:Int)≤9223372036854775807:=by
 unfold parseL
 split
 ·rename_i h;show(((readL l).1:Nat):Int)≤_;omega
 ·show((0:Nat):Int)≤_;omega
theorem oneL_ok {l:List UInt8} {k n:Nat} {v:Int} (h:oneL l=some (k,n,v)):k=2→0≤v∧v≤9223372036854775807:=by
 intro h2
 cases l with
 | nil=>cases h
 | cons c l =>
  unfold oneL at h
  simp only at h
  split at h
  ·split at h
   ·simp only[Option.some.injEq,Prod.mk.injEq] at h
    obtain⟨rfl,rfl,rfl⟩:=h
    exact⟨by omega,by omega⟩
   ·cases h
  ·split at h
   ·split at h
    ·simp only[Option.some.injEq,Prod.mk.injEq] at h
     obtain⟨rfl,rfl,rfl⟩:=h
     exact⟨Int.natCast_nonneg _,parseL_le _⟩
    ·cases h
   ·cases hs:signOf (c :: l) with
    | none=>rw[hs] at h;cases h
    | some s =>
     rw[hs] at h
     simp only[Option.map_some,Option.some.injEq,Prod.mk.injEq] at h
     obtain⟨rfl,rfl,rfl⟩:=h
     omega
theorem tokAt_ok {l:List UInt8} {a:Nat} (h:oneL (l.drop a)≠none):(tokAt l a).kind≠5∧(tokAt l a).text≠[]∧((tokAt l a).kind=2→0≤(tokAt l a).v∧(tokAt l a).v≤9223372036854775807)∧(tokAt l a).text.length≤l.length:=by
 have hl:=tokAt_len h
 refine⟨?_,fun h0=>by rw[h0] at hl;simp at hl,?_,by omega⟩
 ·unfold tokAt
  cases h1:oneL (l.drop a) with
  | none=>exact absurd h1 h
  | some x=>obtain⟨k,n,v⟩:=x;have:=oneL_some h1;simp only[tokOf];omega
 ·unfold tokAt
  cases h1:oneL (l.drop a) with
  | none=>exact absurd h1 h
  | some x=>obtain⟨k,n,v⟩:=x;exact oneL_ok h1
theorem toks_ok {l:List UInt8} {a:Nat} {ts:List Tok} {r:Option Nat} (h:Toks l a ts r):∀t ∈ ts,t.text≠[]∧(t.kind=2→0≤t.v∧t.v≤9223372036854775807)∧t.text.length≤l.length:=by
 induction h with
 | fin _=>intro t ht;cases ht
 | bad _ _=>intro t ht;cases ht
 | tok _ h1 _ ih =>
  intro t ht
  rcases List.mem_cons.1 ht with rfl | ht
  ·exact(tokAt_ok h1).2
  ·exact ih t ht
theorem tok_ok {l:List UInt8} {ts:List Tok} {r:Option Nat} (h:lexT l ts r) (hl:l.length≤20000) (n:Nat):TokOk (ts++[endT n]):=by
 intro i t hi
 have hm:=List.mem_of_getElem? hi
 rcases List.mem_append.1 hm with hm | hm
 ·obtain⟨h1,h2,h3⟩:=toks_ok h t hm
  exact⟨fun _=>h1,h2,by omega⟩
 ·obtain rfl:=List.mem_singleton.1 hm
  exact⟨fun h=>by have:(5:Nat)=1:=h;omega,fun h=>by have:(5:Nat)=2:=h;omega,by show(0:Nat)≤_;omega⟩
theorem toks_all (l:List UInt8) (a:Nat):∃ts r,Toks l a ts r:=by
 suffices h:∀n a,l.length-a≤n→∃ts r,Toks l a ts r from h _ a (qL _)
 intro n
 induction n with
 | zero=>intro a h;exact⟨_,_,.fin (by omega)⟩
 | succ n ih =>
  intro a h
  rcases Nat.lt_or_ge a l.length with hlt | hge
  ·by_cases h1:oneL (l.drop a)=none
   ·exact⟨_,_,.bad hlt h1⟩
   ·have h2:=tokAt_len h1
    have h3:=gapTo_ge false l (a+(tokAt l a).text.length)
    obtain⟨ts,r,h4⟩:=ih (gapTo false l (a+(tokAt l a).text.length)) (by omega)
    exact⟨_,_,.tok hlt h1 h4⟩
  ·exact⟨_,_,.fin hge⟩
def headIs (p:UInt8→Bool):List UInt8→Bool
 | []=>false
 | c :: _=>p c
theorem sg_dig {s:List UInt8} (hs:s ∈ sgL):headIs isDig s=false:=by
 have:sgL.all (fun s=>decide (headIs isDig s=false))=true:=by decide +kernel
 exact of_decide_eq_true (List.all_eq_true.1 this s hs)
theorem signs_letter {s:List UInt8} (hs:s ∈ signsL):headIs isLetter s=false:=by
 have:signsL.all (fun s=>decide (headIs isLetter s=false))=true:=by decide +kernel
 exact of_decide_eq_true (List.all_eq_true.1 this s hs)
theorem sg_some {s:List UInt8} (hs:s ∈ sgL):s≠[]:=by
 have:sgL.all (fun s=>decide (s≠[]))=true:=by decide +kernel
 exact of_decide_eq_true (List.all_eq_true.1 this s hs)
theorem one_tx {m:List UInt8} {k n:Nat} {v:Int} (h:oneL m=some (k,n,v)) (h3:k≠3) (h4:k≠4):∀s ∈ sgL,m.take n≠s:=by
 have hn:=oneL_some h
 intro s hs e
 unfold oneL at h
 cases m with
 | nil=>cases h
 | cons c t =>
  have hd:∀p:UInt8→Bool,p c=true→headIs p s=true:=fun p hp=>by
   rw[←e]
   cases n with
   | zero=>omega
   | succ n=>exact hp
  dsimp only at h
  split at h
  ·rename_i hl
   split at h
   ·injection h with h
    injection h with h1 h2
    injection h2 with h2 _
    split at h1
    ·exact h3 h1.symm
    ·rename_i hw
     rw[h2] at hw
     rcases List.mem_append.1 hs with hs | hs
     ·exact hw (by unfold wordL;rw[e];simpa using hs)
     ·have:=hd isLetter hl
      rw[signs_letter hs] at this;cases this
   ·cases h
  ·split at h
   ·rename_i hg
    have:=hd isDig hg
    rw[sg_dig hs] at this;cases this
   ·cases hsg:signOf (c :: t) with
    | none=>rw[hsg] at h;cases h
    | some x =>
     rw[hsg] at h
     injection h with h
     injection h with h1 _
     exact h4 h1.symm
theorem toks_tx {l:List UInt8} {a:Nat} {ts:List Tok} {r:Option Nat} (h:Toks l a ts r):∀t ∈ ts,t.kind≠3→t.kind≠4→∀s ∈ sgL,t.text≠s:=by
 induction h with
 | fin _=>intro t ht;cases ht
 | bad _ _=>intro t ht;cases ht
 | @tok a ts r hlt h1 h2 ih =>
  intro t ht
  rcases List.mem_cons.1 ht with rfl | ht
  ·intro h3 h4
   unfold tokAt at h3 h4 ⊢
   cases ho:oneL (l.drop a) with
   | none=>exact absurd ho h1
   | some x =>
    obtain⟨k,n,v⟩:=x
    rw[ho] at h3 h4
    exact one_tx ho h3 h4
  ·exact ih t ht
theorem lexed_tx {l:List UInt8} {ts:List Tok} {r:Option Nat} (h:lexT l ts r) (n:Nat):TxOk (ts++[endT n]):=by
 intro i h3 h4 s hs
 unfold tokL at h3 h4 ⊢
 rw[List.getD_eq_getElem?_getD] at h3 h4 ⊢
 cases hi:(ts++[endT n])[i]? with
 | none=>exact fun e=>sg_some hs e.symm
 | some t =>
  rw[hi] at h3 h4
  rcases List.mem_append.1 (List.mem_of_getElem? hi) with hm | hm
  ·exact toks_tx h t hm h3 h4 s hs
  ·obtain rfl:=List.mem_singleton.1 hm
   exact fun e=>sg_some hs e.symm
theorem behind_int (b g cap:Nat) (dv:Value) (ts:List Tok) (xb:Nat→Prop) (σ:RS) (s:List UInt8) (F:Nat) (R:Ending→World→Prop) (W:World) (h:Hid (Cd W b g cap dv ts xb σ)) (hc:σ.code=0) (hs:s ∈ sgL) (hF:∀args w,(callFunc F args).run prog w=.ok (.enter F args) w)
  (hbad:(wantS ts s σ).code≠0→∀r Y,CdBad b xb W (wantS ts s σ).code (wantS ts s σ).pos r Y→R r Y)
  (C:(wantS ts s σ).code=0→∀W',Hid (Cd W' b g cap dv ts xb (wantS ts s σ))→Hid (RX b xb W W')→Calls prog F #[.pointer (some ⟨b,0,none⟩)] W' R) :
  Calls prog 65 #[.pointer (some ⟨b,0,none⟩),.string (str s),.func (.func F) #[.pointer (some ⟨b,0,none⟩)] #[]] W R:=by
 by_cases hw:(wantS ts s σ).code=0
 ·have WA:=Hd ((wants_one b g cap dv ts xb σ s W h hc hs).mono fun r Y hh=>hh.ok hw)
  have HC:=Hd (C hw)
  clear C hw hbad
  go_enter Tryz.func65,Tryz.ntmps65
  go_wp2_with (first
   | (go_at_call 67;(with_reducible refine WA.out.mono ?_);rintro e w1 ⟨rfl,hr,hk⟩)
   | ((with_reducible refine(HC.out _ hr hk).mono ?_);intro e w2 hR;cases e))
  all_goals first
   | exact hR
   | exact⟨rfl,hR⟩
   | exact⟨{ tmps:=#[],defers:=[] },w2,hR⟩
 ·have WB:=Hd ((wants_one b g cap dv ts xb σ s W h hc hs).mono fun r Y hh=>hh.bad hw)
  have HB:=Hd (hbad hw)
  clear C hw hbad
  go_enter Tryz.func65,Tryz.ntmps65
  go_wp2_with (go_at_call 67;(with_reducible refine WB.out.mono ?_);rintro e w1 ⟨rfl,hk⟩)
  exact⟨rfl,HB.out _ _ ⟨rfl,hk⟩⟩
theorem behind_str (b g cap:Nat) (dv:Value) (ts:List Tok) (xb:Nat→Prop) (σ:RS) (s:List UInt8) (F:Nat) (R:Ending→World→Prop) (W:World) (h:Hid (Cd W b g cap dv ts xb σ)) (hc:σ.code=0) (hs:s ∈ sgL) (hF:∀args w,(callFunc F args).run prog w=.ok (.enter F args) w)
  (hbad:(wantS ts s σ).code≠0→∀r Y,CdBad b xb W (wantS ts s σ).code (wantS ts s σ).pos r Y→R r Y)
  (C:(wantS ts s σ).code=0→∀W',Hid (Cd W' b g cap dv ts xb (wantS ts s σ))→Hid (RX b xb W W')→Calls prog F #[.pointer (some ⟨b,0,none⟩)] W' R) :
  Calls prog 102 #[.pointer (some ⟨b,0,none⟩),.string (str s),.func (.func F) #[.pointer (some ⟨b,0,none⟩)] #[]] W R:=by
 by_cases hw:(wantS ts s σ).code=0
 ·have WA:=Hd ((wants_one b g cap dv ts xb σ s W h hc hs).mono fun r Y hh=>hh.ok hw)
  have HC:=Hd (C hw)
  clear C hw hbad
  go_enter Tryz.func102,Tryz.ntmps102
  go_wp2_with (first
   | (go_at_call 67;(with_reducible refine WA.out.mono ?_);rintro e w1 ⟨rfl,hr,hk⟩)
   | ((with_reducible refine(HC.out _ hr hk).mono ?_);intro e w2 hR;cases e))
  all_goals first
   | exact hR
   | exact⟨rfl,hR⟩
   | exact⟨{ tmps:=#[],defers:=[] },w2,hR⟩
 ·have WB:=Hd ((wants_one b g cap dv ts xb σ s W h hc hs).mono fun r Y hh=>hh.bad hw)
  have HB:=Hd (hbad hw)
  clear C hw hbad
  go_enter Tryz.func102,Tryz.ntmps102
  go_wp2_with (go_at_call 67;(with_reducible refine WB.out.mono ?_);rintro e w1 ⟨rfl,hk⟩)
  exact⟨rfl,HB.out _ _ ⟨rfl,hk⟩⟩
theorem behind_its (b g cap:Nat) (dv:Value) (ts:List Tok) (xb:Nat→Prop) (σ:RS) (s:List UInt8) (F:Nat) (R:Ending→World→Prop) (W:World) (h:Hid (Cd W b g cap dv ts xb σ)) (hc:σ.code=0) (hs:s ∈ sgL) (hF:∀args w,(callFunc F args).run prog w=.ok (.enter F args) w)
  (hbad:(wantS ts s σ).code≠0→∀r Y,CdBad b xb W (wantS ts s σ).code (wantS ts s σ).pos r Y→R r Y)
  (C:(wantS ts s σ).code=0→∀W',Hid (Cd W' b g cap dv ts xb (wantS ts s σ))→Hid (RX b xb W W')→Calls prog F #[.pointer (some ⟨b,0,none⟩)] W' R) :
  Calls prog 68 #[.pointer (some ⟨b,0,none⟩),.string (str s),.func (.func F) #[.pointer (some ⟨b,0,none⟩)] #[]] W R:=by
 by_cases hw:(wantS ts s σ).code=0
 ·have WA:=Hd ((wants_one b g cap dv ts xb σ s W h hc hs).mono fun r Y hh=>hh.ok hw)
  have HC:=Hd (C hw)
  clear C hw hbad
  go_enter Tryz.func68,Tryz.ntmps68
  go_wp2_with (first
   | (go_at_call 67;(with_reducible refine WA.out.mono ?_);rintro e w1 ⟨rfl,hr,hk⟩)
   | ((with_reducible refine(HC.out _ hr hk).mono ?_);intro e w2 hR;cases e))
  all_goals first
   | exact hR
   | exact⟨rfl,hR⟩
   | exact⟨{ tmps:=#[],defers:=[] },w2,hR⟩
 ·have WB:=Hd ((wants_one b g cap dv ts xb σ s W h hc hs).mono fun r Y hh=>hh.bad hw)
  have HB:=Hd (hbad hw)
  clear C hw hbad
  go_enter Tryz.func68,Tryz.ntmps68
  go_wp2_with (go_at_call 67;(with_reducible refine WB.out.mono ?_);rintro e w1 ⟨rfl,hk⟩)
  exact⟨rfl,HB.out _ _ ⟨rfl,hk⟩⟩
theorem behind_strs (b g cap:Nat) (dv:Value) (ts:List Tok) (xb:Nat→Prop) (σ:RS) (s:List UInt8) (F:Nat) (R:Ending→World→Prop) (W:World) (h:Hid (Cd W b g cap dv ts xb σ)) (hc:σ.code=0) (hs:s ∈ sgL) (hF:∀args w,(callFunc F args).run prog w=.ok (.enter F args) w)
  (hbad:(wantS ts s σ).code≠0→∀r Y,CdBad b xb W (wantS ts s σ).code (wantS ts s σ).pos r Y→R r Y)
  (C:(wantS ts s σ).code=0→∀W',Hid (Cd W' b g cap dv ts xb (wantS ts s σ))→Hid (RX b xb W W')→Calls prog F #[.pointer (some ⟨b,0,none⟩)] W' R) :
  Calls prog 103 #[.pointer (some ⟨b,0,none⟩),.string (str s),.func (.func F) #[.pointer (some ⟨b,0,none⟩)] #[]] W R:=by
 by_cases hw:(wantS ts s σ).code=0
 ·have WA:=Hd ((wants_one b g cap dv ts xb σ s W h hc hs).mono fun r Y hh=>hh.ok hw)
  have HC:=Hd (C hw)
  clear C hw hbad
  go_enter Tryz.func103,Tryz.ntmps103
  go_wp2_with (first
   | (go_at_call 67;(with_reducible refine WA.out.mono ?_);rintro e w1 ⟨rfl,hr,hk⟩)
   | ((with_reducible refine(HC.out _ hr hk).mono ?_);intro e w2 hR;cases e))
  all_goals first
   | exact hR
   | exact⟨rfl,hR⟩
   | exact⟨{ tmps:=#[],defers:=[] },w2,hR⟩
 ·have WB:=Hd ((wants_one b g cap dv ts xb σ s W h hc hs).mono fun r Y hh=>hh.bad hw)
  have HB:=Hd (hbad hw)
  clear C hw hbad
  go_enter Tryz.func103,Tryz.ntmps103
  go_wp2_with (go_at_call 67;(with_reducible refine WB.out.mono ?_);rintro e w1 ⟨rfl,hk⟩)
  exact⟨rfl,HB.out _ _ ⟨rfl,hk⟩⟩
theorem row_after {W:World} {base:Nat} {i:TypeInfo} {z:Value} {ty:TypeId} (t e:TypeId) (size bytes:Nat) (ht:prog.underlying t=some (.slice e)) (h2:prog.info? e=some i) (h3:i.zero=some z) (h4:i.size=size) (h5:i.bytes=bytes) (hby:bytes≤200)
  (v:Value) (k:Nat) (xs:List Value) (hown:W.ownsRow base e size v k xs) (ad:Addr) (news:List Value) (hn:news.length=1*size)
  (hc:∀j u,news[j]?=some u→W.cell? (ad.add j)=some u) (h1c:∀u ∈ news,u.oneCell'=true) (hk:k≤100000) (v':Value) (w':World)
  (hrun:(Builtin.append_ #[t,t] ty #[v,.slice (some ad) 1 1]).run prog W=.ok v' w'):v'.ownBlock=v.ownBlock∨v'.ownBlock=some W.heap.size:=by
 have hmul:(k+1)*bytes≤100001*200:=Nat.mul_le_mul (by omega) hby
 rcases hown.2 with ⟨rfl,rfl⟩ | ⟨g,cap,cur,rfl,hbg,hg,hnc,hcm,hcs,htake⟩
 ·have hr:=run_append_nil (P:=prog) W t ty e i z ht h2 h3 ad 1 1 news (by rw[h4];exact hn) hc (by omega) (by omega) (by rw[h5];omega)
  rw[hr] at hrun
  cases hrun
  exact .inr rfl
 ·by_cases hroom:k+1≤cap
  ·have e1:k*size+size≤cap*size:=by rw[←Nat.succ_mul];exact Nat.mul_le_mul_right _ hroom
   have e2:news.length=size:=by rw[hn,Nat.one_mul]
   have hr:=run_append_room (P:=prog) W t ty e i ht h2 g k cap cur hg ad 1 1 news (by rw[h4];exact hn) hc h1c hroom (by rw[h4,hcs];omega)
   rw[hr] at hrun
   cases hrun
   exact .inl rfl
  ·have holds:∀j u,xs[j]?=some u→W.cell? ((⟨g,0,none⟩:Addr).add j)=some u:=hown.cells (g:=g) rfl
   have hr:=run_append_grow (P:=prog) W t ty e i z ht h2 h3 ⟨g,0,none⟩ k cap xs (by rw[h4];exact hown.1) holds ad 1 1 news (by rw[h4];exact hn) hc (by omega) (by omega) (growslice_fits (by omega) (by rw[h5];omega))
   rw[hr] at hrun
   cases hrun
   exact .inr rfl
theorem cstep_put {ops:Array Oper} {o:Oper} {a:Act} {K:Act→World→Prop} {Q:Exit→Act→World→Prop} {E:Prop} (w:World) (hgd:o.guard=none) (s x:Operand)
  (ho:o.op=.call { callee:=.builtin .append,args:=#[s,x],argTypes:=#[24,24] })
  (B:Nat) (v:Value) (n:Nat) (xs:List Value) (hs:a.eval s=v) (hown:w.ownsRow B 46 9 v n xs) (ad:Addr) (news:List Value) (hx:a.eval x=.slice (some ad) 1 1) (hn:news.length=1*9)
  (hc:∀j u,news[j]?=some u→w.cell? (ad.add j)=some u) (h1c:∀u ∈ news,u.oneCell'=true) (hk:n≤100000) (hB:B≤w.heap.size)
  (h:∀g cap w',w'.ownsRow B 46 9 (.slice (some ⟨g,0,none⟩) (n+1) cap) (n+1) (xs++news)→w.grownBy w' v.ownBlock→(some g=v.ownBlock∨g=w.heap.size)→K (a.put o.dst (.slice (some ⟨g,0,none⟩) (n+1) cap)) w'):if Region.wanted o (yielded ops a.tmps)=true then Oper.wp prog o a w K Q else E:=by
 rw[if_pos (by simp[Region.wanted,hgd])]
 obtain⟨i,h2,h3,h4,h5⟩:=info_parts ex_info
 obtain⟨v',w',hr,r1,r2,_⟩:=run_append_own (P:=prog) w B 24 o.type 46 i _ 9 104 Tryz.underlying24 h2 h3 h4 h5 rfl (by decide) v n xs hown ad 1 1 news hn hc h1c (by unfold maxLen;omega) (by omega) hB
 have r3:=row_after 24 46 9 104 Tryz.underlying24 h2 h3 h4 h5 (by decide) v n xs hown ad news hn hc h1c hk v' w' hr
 unfold Oper.wp execOp
 simp only[ho,resolve,invoke,builtin,Sem.run_bind,Sem.run_pure,Result.andThen_ok,List.map_toArray,List.map_cons,List.map_nil,hs,hx,hr]
 obtain⟨g,cap,rfl⟩:=ownsRow_succ r1
 refine h g cap w' r1 r2 ?_
 rcases r3 with r3 | r3
 ·exact .inl r3
 ·exact .inr (qI r3)
theorem cput_end {b g cap:Nat} {dv:Value} {ts:List Tok} {xb:Nat→Prop} {σ:RS} {x:Ex} {ov oe:Option Addr} {nv cv ce:Nat} {W w0 w1:World} {q:List (Ex×Value)} (h:Cd W b g cap dv ts xb σ) (hv:W.ownsRow (b+1) 3 1 (.slice ov nv cv) x.args.length (x.args.map intC)) (hvx:∀k,(Value.slice ov nv cv).ownBlock=some k→¬xb k)
  (hq:q.map Prod.fst=σ.exprs∧∀p ∈ q,W.ownsRow (b+1) 3 1 p.2 p.1.args.length (p.1.args.map intC)∧∀k,p.2.ownBlock=some k→¬xb k) (hb:Below W.heap.size W w0) (ho:w0.ownsRow (b+1) 46 9 (.slice oe σ.exprs.length ce) σ.exprs.length (rdCells q))
  (hg:w0.grownBy w1 (Value.slice oe σ.exprs.length ce).ownBlock) (gg cc:Nat) (hgn:some gg=(Value.slice oe σ.exprs.length ce).ownBlock∨gg=w0.heap.size) (hox:∀k,(Value.slice oe σ.exprs.length ce).ownBlock=some k→¬xb k) (ho1:w1.ownsRow (b+1) 46 9 (.slice (some ⟨gg,0,none⟩) (σ.exprs.length+1) cc) (σ.exprs.length+1) (rdCells q++exC x (.slice ov nv cv))) :
  Cd (w1.setCell ⟨b,2,none⟩ (.slice (some ⟨gg,0,none⟩) (σ.exprs.length+1) cc)) b g cap dv ts xb (putS x σ)∧RX b xb W (w1.setCell ⟨b,2,none⟩ (.slice (some ⟨gg,0,none⟩) (σ.exprs.length+1) cc)):=by
 have hbs:=h.size
 have hs0:=hb.size
 have k1:RX b xb W w1:=(RX.of_below hb (ql hbs) h.xlt).trans ⟨.grown ho hg (by omega),fun k hk=>hg.block k (by have:=h.xlt k hk;omega) (fun e=>hox k e.symm hk)⟩
 have k2:RX b xb W (w1.setCell ⟨b,2,none⟩ (.slice (some ⟨gg,0,none⟩) (σ.exprs.length+1) cc)):=k1.trans (RX.set h.xnb 2 _)
 refine⟨?_,k2⟩
 obtain⟨o,c,h1,h2⟩:=h.blk
 have fb:w1.heap[b]?=W.heap[b]?:=(hg.block b (by omega) (fun e=>by have:=(ho.lt b e.symm).1;omega)).trans (hb.block b hbs)
 rw[←fb] at h1
 have hlen:(putS x σ).exprs.length=σ.exprs.length+1:=by simp[putS]
 refine⟨fun k hk=>Nat.lt_of_lt_of_le (h.xlt k hk) k2.size,⟨some ⟨gg,0,none⟩,cc,?_,⟨q++[(x,.slice ov nv cv)],?_,?_,?_⟩,?_⟩,h.xnb,row_low h.row (k2.rk.low g h.lt),h.lt,h.at_,h.len,h.cp,h.ends,h.tx⟩
 ·rw[set_blk h1,hlen];simp[putS]
 ·simp[putS,hq.1]
 ·rw[hlen,rdCells_snoc]
  exact rd_own_same ho1 fun k e=>Below.heap_setCell w1 ⟨b,2,none⟩ _ k (by have:=(ho1.lt k e).1;simp;omega)
 ·intro p hp
  rcases List.mem_append.1 hp with hp | hp
  ·exact⟨own_keep (hq.2 p hp).1 (Nat.lt_succ_self _) k2.rk,(hq.2 p hp).2⟩
  ·obtain rfl:=List.mem_singleton.1 hp
   exact⟨own_keep hv (Nat.lt_succ_self _) k2.rk,hvx⟩
 ·intro k hk hx
  obtain rfl:gg=k:=by simpa [Value.ownBlock] using hk
  rcases hgn with hgn | hgn
  ·exact hox gg hgn.symm hx
  ·have:=h.xlt gg hx;omega
theorem cput_any (b g cap:Nat) (dv:Value) (ts:List Tok) (xb:Nat→Prop) (σ:RS) (x:Ex) (ov:Option Addr) (nv cv:Nat) (W:World) (h:Hid (Cd W b g cap dv ts xb σ)) (hcode:σ.code=0) (hl:σ.exprs.length≤40000)
  (hv:Hid (W.ownsRow (b+1) 3 1 (.slice ov nv cv) x.args.length (x.args.map intC))) (hvx:Hid (∀k,(Value.slice ov nv cv).ownBlock=some k→¬xb k)) :
  Calls prog 75 #[.pointer (some ⟨b,0,none⟩),rdV x (.slice ov nv cv)] W fun r Y=>CdRet b g cap dv ts xb W (.int .i64 (σ.exprs.length:Int)) (putS x σ) r Y:=by
 obtain⟨oe,ce,⟨c0,c1,c3,c4,fr⟩,hx,hox⟩:=h.out.cells
 obtain⟨q,hq1,hq2,hq3⟩:=hx
 have HOX:=Hd hox
 clear hox
 have hbs:b<W.heap.size:=h.out.size
 obtain⟨n,hn⟩:∃n,n=σ.exprs.length:=⟨_,rfl⟩
 rw[←hn] at c3 hl hq2
 rw[←hn]
 have f3:=fr 2
 have HQ2:=Hd hq2
 have HN:=Hd hn
 have HQ:=Hd (show q.map Prod.fst=σ.exprs∧∀p ∈ q,W.ownsRow (b+1) 3 1 p.2 p.1.args.length (p.1.args.map intC)∧∀k,p.2.ownBlock=some k→¬xb k from⟨hq1,hq3⟩)
 clear hq1 hq2 hq3 hn c0 c1 c4 fr
 obtain⟨k,xa,xb,xc,nm,st,vv,ar,ps⟩:=x
 unfold rdV
 dsimp only
 obtain⟨W2,hW2⟩:∃W2,W2=W.alloc (.cells #[.int .i64 k,.int .i64 xa,.int .i64 xb,.int .i64 xc,.string nm,.string st,.int .i64 vv,.slice ov nv cv,.int .i64 ps] 46):=⟨_,rfl⟩
 have hb2:Below W.heap.size W W2:=by rw[hW2];exact(qB _ _).alloc (qL _) _
 have s2:W2.heap.size=W.heap.size+1:=by rw[hW2];simp
 have x9:∀j u,[Value.int .i64 k,.int .i64 xa,.int .i64 xb,.int .i64 xc,.string nm,.string st,.int .i64 vv,.slice ov nv cv,.int .i64 ps][j]?=some u→W2.cell? ⟨W.heap.size,j,none⟩=some u:=fun j u hu=>by
  rw[hW2,World.cell?_alloc_new];simpa using hu
 have x0:=x9 0 _ rfl
 have x1:=x9 1 _ rfl
 have x2:=x9 2 _ rfl
 have x3:=x9 3 _ rfl
 have x4:=x9 4 _ rfl
 have x5:=x9 5 _ rfl
 have x6:=x9 6 _ rfl
 have x7:=x9 7 _ rfl
 have x8:=x9 8 _ rfl
 have e3:W2.cell? ⟨b,2,none⟩=some (.slice oe n ce):=(hb2.cell (p:=⟨b,2,none⟩) hbs).trans c3
 have g3:W2.frozen? ⟨b,2,none⟩=false:=(hb2.frozen (p:=⟨b,2,none⟩) hbs).trans f3
 have bs2:b<W2.heap.size:=by omega
 have OW:=Hd (show W2.ownsRow (b+1) 46 9 (.slice oe n ce) n (rdCells q) from rd_own_same HQ2.out fun k hk=>hb2.block k (HQ2.out.lt k hk).2)
 have HB2:=Hd hb2
 have S2:=Hd s2
 have HBA:=Hd ((hb2.alloc hb2.size (.cells #[.int .i64 k,.int .i64 xa,.int .i64 xb,.int .i64 xc,.string nm,.string st,.int .i64 vv,.slice ov nv cv,.int .i64 ps] 46)).drew)
 go_enter Tryz.func75,Tryz.ntmps75
 go_wp2_with fail
 rw[←hW2]
 clear hW2 hb2 s2 x9 c3 f3
 go_region_law (refine cstep_put _ (by rfl) (.tmp 10) (.tmp 12) (by rfl) (b+1) (.slice oe n ce) n (rdCells q) (by rfl) (by exact OW.out.alloc _) ⟨W2.heap.size,0,none⟩ [.int .i64 k,.int .i64 xa,.int .i64 xb,.int .i64 xc,.string nm,.string st,.int .i64 vv,.slice ov nv cv,.int .i64 ps] (by rfl) (by rfl) (by exact nine_cells W2 _ _ _ _ _ _ _ _ _ _) (by simp[Value.oneCell']) (by omega) (by simp;omega) ?_;intro gg cc w1 ho1 hg1 hgn1;have z3:w1.cell? ⟨b,2,none⟩=some (.slice oe n ce):=hg1.cell (by exact(World.cell?_alloc_old _ _ _ (Nat.ne_of_lt bs2)).trans e3) (fun e=>by have:=(OW.out.lt b e.symm).1;omega);have fb:=hg1.block b (by simp;omega) (fun e=>by have:=(OW.out.lt b e.symm).1;omega);have z4:w1.frozen? ⟨b,2,none⟩=false:=(World.frozen?_of_block (a:=⟨b,2,none⟩) fb).trans (by exact(World.frozen?_alloc_old _ _ _ (Nat.ne_of_lt bs2)).trans g3))
 all_goals (
  go_wp2_with fail
  go_ret
  rw[HN.out] at ho1 hg1 OW hgn1
  obtain⟨r1,r2⟩:=cput_end (x:=⟨k,xa,xb,xc,nm,st,vv,ar,ps⟩) h.out hv.out hvx.out HQ.out (HBA.out) (OW.out.alloc _) hg1 gg cc hgn1 HOX.out ho1
  exact⟨by rw[HN.out];exact r2,.inl ⟨hcode,rfl,by rw[HN.out];exact r1⟩⟩)
def betweenL:List (List UInt8×Int):=[([45,62],17),([102,98,121],18),([111,114],14),([97,110,100],13),([60],10),([60,61],11),([61,61],12),([43],6),([45],7),([42],8),([47],9)]
theorem between_0 (W:World):Calls prog 76 #[.string (str [45,62])] W fun r Y=>r=.returned (.int .i64 17)∧Y=W:=by
 have q0:((str [45,62]).toList ==[45,62])=true:=by decide +kernel
 go_enter Tryz.func76,Tryz.ntmps76
 go_wp2_with fail
 go_ret
 exact⟨rfl,rfl⟩
theorem between_1 (W:World):Calls prog 76 #[.string (str [102,98,121])] W fun r Y=>r=.returned (.int .i64 18)∧Y=W:=by
 have q0:((str [102,98,121]).toList ==[45,62])=false:=by decide +kernel
 have q1:((str [102,98,121]).toList ==[102,98,121])=true:=by decide +kernel
 go_enter Tryz.func76,Tryz.ntmps76
 go_wp2_with fail
 go_ret
 exact⟨rfl,rfl⟩
theorem between_2 (W:World):Calls prog 76 #[.string (str [111,114])] W fun r Y=>r=.returned (.int .i64 14)∧Y=W:=by
 have q0:((str [111,114]).toList ==[45,62])=false:=by decide +kernel
 have q1:((str [111,114]).toList ==[102,98,121])=false:=by decide +kernel
 have q2:((str [111,114]).toList ==[111,114])=true:=by decide +kernel
 go_enter Tryz.func76,Tryz.ntmps76
 go_wp2_with fail
 go_ret
 exact⟨rfl,rfl⟩
theorem between_3 (W:World):Calls prog 76 #[.string (str [97,110,100])] W fun r Y=>r=.returned (.int .i64 13)∧Y=W:=by
 have q0:((str [97,110,100]).toList ==[45,62])=false:=by decide +kernel
 have q1:((str [97,110,100]).toList ==[102,98,121])=false:=by decide +kernel
 have q2:((str [97,110,100]).toList ==[111,114])=false:=by decide +kernel
 have q3:((str [97,110,100]).toList ==[97,110,100])=true:=by decide +kernel
 go_enter Tryz.func76,Tryz.ntmps76
 go_wp2_with fail
 go_ret
 exact⟨rfl,rfl⟩
theorem between_4 (W:World):Calls prog 76 #[.string (str [60])] W fun r Y=>r=.returned (.int .i64 10)∧Y=W:=by
 have q0:((str [60]).toList ==[45,62])=false:=by decide +kernel
 have q1:((str [60]).toList ==[102,98,121])=false:=by decide +kernel
 have q2:((str [60]).toList ==[111,114])=false:=by decide +kernel
 have q3:((str [60]).toList ==[97,110,100])=false:=by decide +kernel
 have q4:((str [60]).toList ==[60])=true:=by decide +kernel
 go_enter Tryz.func76,Tryz.ntmps76
 go_wp2_with fail
 go_ret
 exact⟨rfl,rfl⟩
theorem between_5 (W:World):Calls prog 76 #[.string (str [60,61])] W fun r Y=>r=.returned (.int .i64 11)∧Y=W:=by
 have q0:((str [60,61]).toList ==[45,62])=false:=by decide +kernel
 have q1:((str [60,61]).toList ==[102,98,121])=false:=by decide +kernel
 have q2:((str [60,61]).toList ==[111,114])=false:=by decide +kernel
 have q3:((str [60,61]).toList ==[97,110,100])=false:=by decide +kernel
 have q4:((str [60,61]).toList ==[60])=false:=by decide +kernel
 have q5:((str [60,61]).toList ==[60,61])=true:=by decide +kernel
 go_enter Tryz.func76,Tryz.ntmps76
 go_wp2_with fail
 go_ret
 exact⟨rfl,rfl⟩
theorem between_6 (W:World):Calls prog 76 #[.string (str [61,61])] W fun r Y=>r=.returned (.int .i64 12)∧Y=W:=by
 have q0:((str [61,61]).toList ==[45,62])=false:=by decide +kernel
 have q1:((str [61,61]).toList ==[102,98,121])=false:=by decide +kernel
 have q2:((str [61,61]).toList ==[111,114])=false:=by decide +kernel
 have q3:((str [61,61]).toList ==[97,110,100])=false:=by decide +kernel
 have q4:((str [61,61]).toList ==[60])=false:=by decide +kernel
 have q5:((str [61,61]).toList ==[60,61])=false:=by decide +kernel
 have q6:((str [61,61]).toList ==[61,61])=true:=by decide +kernel
 go_enter Tryz.func76,Tryz.ntmps76
 go_wp2_with fail
 go_ret
 exact⟨rfl,rfl⟩
theorem between_7 (W:World):Calls prog 76 #[.string (str [43])] W fun r Y=>r=.returned (.int .i64 6)∧Y=W:=by
 have q0:((str [43]).toList ==[45,62])=false:=by decide +kernel
 have q1:((str [43]).toList ==[102,98,121])=false:=by decide +kernel
 have q2:((str [43]).toList ==[111,114])=false:=by decide +kernel
 have q3:((str [43]).toList ==[97,110,100])=false:=by decide +kernel
 have q4:((str [43]).toList ==[60])=false:=by decide +kernel
 have q5:((str [43]).toList ==[60,61])=false:=by decide +kernel
 have q6:((str [43]).toList ==[61,61])=false:=by decide +kernel
 have q7:((str [43]).toList ==[43])=true:=by decide +kernel
 go_enter Tryz.func76,Tryz.ntmps76
 go_wp2_with fail
 go_ret
 exact⟨rfl,rfl⟩
theorem between_8 (W:World):Calls prog 76 #[.string (str [45])] W fun r Y=>r=.returned (.int .i64 7)∧Y=W:=by
 have q0:((str [45]).toList ==[45,62])=false:=by decide +kernel
 have q1:((str [45]).toList ==[102,98,121])=false:=by decide +kernel
 have q2:((str [45]).toList ==[111,114])=false:=by decide +kernel
 have q3:((str [45]).toList ==[97,110,100])=false:=by decide +kernel
 have q4:((str [45]).toList ==[60])=false:=by decide +kernel
 have q5:((str [45]).toList ==[60,61])=false:=by decide +kernel
 have q6:((str [45]).toList ==[61,61])=false:=by decide +kernel
 have q7:((str [45]).toList ==[43])=false:=by decide +kernel
 have q8:((str [45]).toList ==[45])=true:=by decide +kernel
 go_enter Tryz.func76,Tryz.ntmps76
 go_wp2_with fail
 go_ret
 exact⟨rfl,rfl⟩
theorem between_9 (W:World):Calls prog 76 #[.string (str [42])] W fun r Y=>r=.returned (.int .i64 8)∧Y=W:=by
 have q0:((str [42]).toList ==[45,62])=false:=by decide +kernel
 have q1:((str [42]).toList ==[102,98,121])=false:=by decide +kernel
 have q2:((str [42]).toList ==[111,114])=false:=by decide +kernel
 have q3:((str [42]).toList ==[97,110,100])=false:=by decide +kernel
 have q4:((str [42]).toList ==[60])=false:=by decide +kernel
 have q5:((str [42]).toList ==[60,61])=false:=by decide +kernel
 have q6:((str [42]).toList ==[61,61])=false:=by decide +kernel
 have q7:((str [42]).toList ==[43])=false:=by decide +kernel
 have q8:((str [42]).toList ==[45])=false:=by decide +kernel
 have q9:((str [42]).toList ==[42])=true:=by decide +kernel
 go_enter Tryz.func76,Tryz.ntmps76
 go_wp2_with fail
 go_ret
 exact⟨rfl,rfl⟩
theorem between_10 (W:World):Calls prog 76 #[.string (str [47])] W fun r Y=>r=.returned (.int .i64 9)∧Y=W:=by
 have q0:((str [47]).toList ==[45,62])=false:=by decide +kernel
 have q1:((str [47]).toList ==[102,98,121])=false:=by decide +kernel
 have q2:((str [47]).toList ==[111,114])=false:=by decide +kernel
 have q3:((str [47]).toList ==[97,110,100])=false:=by decide +kernel
 have q4:((str [47]).toList ==[60])=false:=by decide +kernel
 have q5:((str [47]).toList ==[60,61])=false:=by decide +kernel
 have q6:((str [47]).toList ==[61,61])=false:=by decide +kernel
 have q7:((str [47]).toList ==[43])=false:=by decide +kernel
 have q8:((str [47]).toList ==[45])=false:=by decide +kernel
 have q9:((str [47]).toList ==[42])=false:=by decide +kernel
 have q10:((str [47]).toList ==[47])=true:=by decide +kernel
 go_enter Tryz.func76,Tryz.ntmps76
 go_wp2_with fail
 go_ret
 exact⟨rfl,rfl⟩
theorem ahead_0 (W:World):Calls prog 124 #[.string (str [45])] W fun r Y=>r=.returned (.int .i64 4)∧Y=W:=by
 have q0:((str [45]).toList ==[45])=true:=by decide +kernel
 go_enter Tryz.func124,Tryz.ntmps124
 go_wp2_with fail
 go_ret
 exact⟨rfl,rfl⟩
theorem ahead_1 (W:World):Calls prog 124 #[.string (str [110,111,116])] W fun r Y=>r=.returned (.int .i64 5)∧Y=W:=by
 have q0:((str [110,111,116]).toList ==[45])=false:=by decide +kernel
 have q1:((str [110,111,116]).toList ==[110,111,116])=true:=by decide +kernel
 go_enter Tryz.func124,Tryz.ntmps124
 go_wp2_with fail
 go_ret
 exact⟨rfl,rfl⟩
theorem ahead_2 (W:World):Calls prog 124 #[.string (str [112,114,101])] W fun r Y=>r=.returned (.int .i64 16)∧Y=W:=by
 have q0:((str [112,114,101]).toList ==[45])=false:=by decide +kernel
 have q1:((str [112,114,101]).toList ==[110,111,116])=false:=by decide +kernel
 have q2:((str [112,114,101]).toList ==[112,114,101])=true:=by decide +kernel
 go_enter Tryz.func124,Tryz.ntmps124
 go_wp2_with fail
 go_ret
 exact⟨rfl,rfl⟩
theorem ahead_3 (W:World):Calls prog 124 #[.string (str [115,113,114,116])] W fun r Y=>r=.returned (.int .i64 21)∧Y=W:=by
 have q0:((str [115,113,114,116]).toList ==[45])=false:=by decide +kernel
 have q1:((str [115,113,114,116]).toList ==[110,111,116])=false:=by decide +kernel
 have q2:((str [115,113,114,116]).toList ==[112,114,101])=false:=by decide +kernel
 have q3:((str [115,113,114,116]).toList ==[115,113,114,116])=true:=by decide +kernel
 go_enter Tryz.func124,Tryz.ntmps124
 go_wp2_with fail
 go_ret
 exact⟨rfl,rfl⟩
theorem between_of {s:List UInt8} {k:Int} (h:(s,k) ∈ betweenL) (W:World):Calls prog 76 #[.string (str s)] W fun r Y=>r=.returned (.int .i64 k)∧Y=W:=by
 unfold betweenL at h
 simp only[List.mem_cons,List.not_mem_nil,or_false,Prod.mk.injEq] at h
 rcases h with ⟨rfl,rfl⟩ | ⟨rfl,rfl⟩ | ⟨rfl,rfl⟩ | ⟨rfl,rfl⟩ | ⟨rfl,rfl⟩ | ⟨rfl,rfl⟩ | ⟨rfl,rfl⟩ | ⟨rfl,rfl⟩ | ⟨rfl,rfl⟩ | ⟨rfl,rfl⟩ | ⟨rfl,rfl⟩
 ·exact between_0 W
 ·exact between_1 W
 ·exact between_2 W
 ·exact between_3 W
 ·exact between_4 W
 ·exact between_5 W
 ·exact between_6 W
 ·exact between_7 W
 ·exact between_8 W
 ·exact between_9 W
 ·exact between_10 W
theorem ahead_of {s:List UInt8} {k:Int} (h:(s,k) ∈ prefixL) (W:World):Calls prog 124 #[.string (str s)] W fun r Y=>r=.returned (.int .i64 k)∧Y=W:=by
 unfold prefixL at h
 simp only[List.mem_cons,List.not_mem_nil,or_false,Prod.mk.injEq] at h
 rcases h with ⟨rfl,rfl⟩ | ⟨rfl,rfl⟩ | ⟨rfl,rfl⟩ | ⟨rfl,rfl⟩
 ·exact ahead_0 W
 ·exact ahead_1 W
 ·exact ahead_2 W
 ·exact ahead_3 W
theorem ahead_zero (s:List UInt8) (h0:s≠[45]) (h1:s≠[110,111,116]) (h2:s≠[112,114,101]) (h3:s≠[115,113,114,116]) (W:World):Calls prog 124 #[.string (str s)] W fun r Y=>r=.returned (.int .i64 0)∧Y=W:=by
 have q0:((str s).toList ==[45])=false:=by rw[str_toList];exact beq_false_of_ne h0
 have q1:((str s).toList ==[110,111,116])=false:=by rw[str_toList];exact beq_false_of_ne h1
 have q2:((str s).toList ==[112,114,101])=false:=by rw[str_toList];exact beq_false_of_ne h2
 have q3:((str s).toList ==[115,113,114,116])=false:=by rw[str_toList];exact beq_false_of_ne h3
 clear h0 h1 h2 h3
 go_enter Tryz.func124,Tryz.ntmps124
 go_wp2_with fail
 go_ret
 exact⟨rfl,rfl⟩
theorem between_sg {s:List UInt8} {k:Int} (h:(s,k) ∈ betweenL):s ∈ sgL:=by
 have:betweenL.all (fun p=>decide (p.1 ∈ sgL))=true:=by decide +kernel
 exact of_decide_eq_true (List.all_eq_true.1 this (s,k) h)
theorem prefix_sg {s:List UInt8} {k:Int} (h:(s,k) ∈ prefixL):s ∈ sgL:=by
 have:prefixL.all (fun p=>decide (p.1 ∈ sgL))=true:=by decide +kernel
 exact of_decide_eq_true (List.all_eq_true.1 this (s,k) h)
theorem pair_no (b g cap:Nat) (dv:Value) (ts:List Tok) (xb:Nat→Prop) (σ:RS) (a:Int) (nx:Value) (k n:Nat) (L:List (List UInt8)) (W:World) (h:Hid (Cd W b g cap dv ts xb σ)) (hc:σ.code=0) (hL:∀s ∈ L,s ∈ sgL) (hn:n=L.length) (hn9:(n:Int)≤9) (hk:Hid (StrsIn W k L)) (hno:fitsB ts L σ=false) :
  Calls prog 51 #[.pointer (some ⟨b,0,none⟩),.int .i64 a,nx,.slice (some ⟨k,0,none⟩) n n] W fun r Y=>r=.returned (.tuple #[.int .i64 a,.bool false])∧Y=W:=by
 have F:=Hd (fits_any b g cap dv ts xb σ k n L W h hc hL hn hn9 hk)
 rw[hno] at F
 clear hno hk hn hL
 go_enter Tryz.func51,Tryz.ntmps51
 go_wp2_with (go_at_call 49;(with_reducible refine F.out.mono ?_);rintro e w1 ⟨rfl,rfl⟩)
 exact bodyPost_ret (v:=.tuple #[.int .i64 a,.bool false]) (by simp[results,Tryz.results51,go_sem]) rfl ⟨rfl,rfl⟩
theorem pair_yes (b g cap:Nat) (dv:Value) (ts:List Tok) (xb:Nat→Prop) (σ:RS) (a:Int) (F:Nat) (k n:Nat) (L:List (List UInt8)) (W:World) (h:Hid (Cd W b g cap dv ts xb σ)) (hc:σ.code=0) (hL:∀s ∈ L,s ∈ sgL) (hn:n=L.length) (hn9:(n:Int)≤9) (hk:Hid (StrsIn W k L))
  (s:List UInt8) (kd:Int) (hs:isS ts s σ=true) (hsL:s ∈ L) (hb:(s,kd) ∈ betweenL) (hF:∀args w,(callFunc F args).run prog w=.ok (.enter F args) w) (bv:Int) (τ:RS) (ok:okS τ=true)
  (C:∀W,Hid (Cd W b g cap dv ts xb (stepS σ))→Calls prog F #[.pointer (some ⟨b,0,none⟩)] W fun r Y=>CdRet b g cap dv ts xb W (.int .i64 bv) τ r Y) :
  Calls prog 51 #[.pointer (some ⟨b,0,none⟩),.int .i64 a,.func (.func F) #[.pointer (some ⟨b,0,none⟩)] #[],.slice (some ⟨k,0,none⟩) n n] W fun r Y=>CdRet b g cap dv ts xb W (.tuple #[.int .i64 (τ.exprs.length:Int),.bool true]) (putS (twoE kd a bv (tokL ts σ.at_).at_) τ) r Y:=by
 have hfit:fitsB ts L σ=true:=by unfold fitsB;exact List.any_eq_true.2 ⟨s,hsL,hs⟩
 have FI:=Hd (fits_any b g cap dv ts xb σ k n L W h hc hL hn hn9 hk)
 rw[hfit] at FI
 have T:=Hd (take_any b g cap dv ts xb σ W h (isS_kind hs).1)
 have htx:(tokL ts σ.at_).text=s:=by
  have:=isS_text h.out.tx (between_sg hb) hc
  rw[hs] at this;exact eq_of_beq this.symm
 have BT:Hid (∀w,Calls prog 76 #[.string (str s)] w fun r Y=>r=.returned (.int .i64 kd)∧Y=w):=Hd fun w=>between_of hb w
 have HC:=Hd C
 unfold TakeRet tokV at T
 rw[htx] at T
 obtain⟨K,hK⟩:∃K,K=(tokL ts σ.at_).kind:=⟨_,rfl⟩
 obtain⟨V,hV⟩:∃V,V=(tokL ts σ.at_).v:=⟨_,rfl⟩
 obtain⟨P,hP⟩:∃P,P=(tokL ts σ.at_).at_:=⟨_,rfl⟩
 rw[←hK,←hV,←hP] at T
 rw[←hP]
 have hbs:=h.out.size
 have HFI:=Hd hF
 clear hK hV hP htx hfit hsL hs hL hn hn9 hk C hb
 by_cases hτ:τ.code=0
 ·have C2:Hid (∀W,Hid (Cd W b g cap dv ts xb (stepS σ))→Calls prog F #[.pointer (some ⟨b,0,none⟩)] W fun r Y=>CdOk b g cap dv ts xb W (.int .i64 bv) τ r Y):=Hd fun W h=>(HC.out W h).mono fun r Y hh=>hh.ok hτ
  have PU:Hid (∀W,Hid (Cd W b g cap dv ts xb τ)→Calls prog 75 #[.pointer (some ⟨b,0,none⟩),.agg #[.int .i64 kd,.int .i64 a,.int .i64 bv,.int .i64 0,.string ⟨#[]⟩,.string ⟨#[]⟩,.int .i64 0,.slice none 0 0,.int .i64 (P:Int)]] W fun r Y=>CdOk b g cap dv ts xb W (.int .i64 (τ.exprs.length:Int)) (putS (twoE kd a bv P) τ) r Y):=Hd fun W h =>
   (cput_any b g cap dv ts xb τ (twoE kd a bv P) none 0 0 W h hτ (okS_iff.1 ok).1 (Hd (qO _ _ _ _)) (Hd fun k hk=>by cases hk)).mono fun r Y hh=>hh.ok hτ
  have HT:=Hd hτ
  clear HC hτ
  go_enter Tryz.func51,Tryz.ntmps51
  go_wp2_with (first
   | (go_at_call 49;(with_reducible refine FI.out.mono ?_);rintro e w1 ⟨rfl,hw1⟩;obtain rfl:=hw1.symm)
   | (go_at_call 61;(with_reducible refine T.out.mono ?_);rintro e w2 ⟨rfl,hr,hk⟩))
  obtain⟨W3,hW3⟩:∃W3,W3=w2.alloc (.cells #[.int .i64 (K:Int),.string (str s),.int .i64 V,.int .i64 (P:Int)] 43):=⟨_,rfl⟩
  have hb3:Below w2.heap.size w2 W3:=by rw[hW3];exact(qB _ _).alloc (qL _) _
  have hp3:W3.heap[w2.heap.size]?=some (.cells #[.int .i64 (K:Int),.string (str s),.int .i64 V,.int .i64 (P:Int)] 43 (0,0)):=by rw[hW3];exact heap_alloc_new w2 _
  have HR3:Hid (Cd W3.drew b g cap dv ts xb (stepS σ)):=Hd (hr.out.below (below_dr hb3 1))
  have HK3:Hid (RX b xb W W3.drew):=Hd (hk.out.trans (RX.of_below (below_dr hb3 1) (ql hr.out.size) hr.out.xlt))
  obtain⟨⟨x0,x1,x2,x3⟩,xf⟩:=four_of hp3
  have hbw:b<w2.heap.size:=hr.out.size
  have HP3:=Hd (show W3.drew.heap[w2.heap.size]?=_ from hp3)
  rw[←hW3]
  clear hW3 hb3 hp3 xf hr hk
  go_region_held3 (fun w'=>w'.cell? ⟨w2.heap.size,1,none⟩=some (.string (str s))∧w'.cell? ⟨w2.heap.size,3,none⟩=some (.int .i64 (P:Int)))
   ((repeat' apply And.intro) <;> first | assumption | go_keep)
   (first
    | (go_at_call 76;(with_reducible refine(BT.out _).mono ?_);rintro e w4 ⟨rfl,rfl⟩)
    | (go_at_call 75;(with_reducible refine(PU.out _ ?_).mono ?_);(focus with_reducible exact hr5);rintro e w6 ⟨rfl,hr6,hk6⟩;obtain⟨⟨v0,v1,v2,v3⟩,-⟩:=four_of (hk6.out.keep _ _ HP5.out (Nat.ne_of_gt hbw) (fun cs e=>by cases e)))
    | ((with_reducible refine(C2.out _ ?_).mono ?_);(focus with_reducible exact HR3);rintro e w5 ⟨rfl,hr5,hk5⟩;have HP5:=Hd (hk5.out.keep _ _ HP3.out (Nat.ne_of_gt hbw) (fun cs e=>by cases e));obtain⟨⟨y0,y1,y2,y3⟩,-⟩:=four_of HP5.out))
  go_wp2_with fail
  go_ret2
  exact⟨HK3.out.trans (hk5.out.trans hk6.out),.inl ⟨HT.out,rfl,hr6.out⟩⟩
 ·have C2:Hid (∀W,Hid (Cd W b g cap dv ts xb (stepS σ))→Calls prog F #[.pointer (some ⟨b,0,none⟩)] W fun r Y=>CdBad b xb W τ.code τ.pos r Y):=Hd fun W h=>(HC.out W h).mono fun r Y hh=>hh.bad hτ
  have HT:=Hd hτ
  clear HC hτ
  go_enter Tryz.func51,Tryz.ntmps51
  go_wp2_with (first
   | (go_at_call 49;(with_reducible refine FI.out.mono ?_);rintro e w1 ⟨rfl,hw1⟩;obtain rfl:=hw1.symm)
   | (go_at_call 61;(with_reducible refine T.out.mono ?_);rintro e w2 ⟨rfl,hr,hk⟩))
  obtain⟨W3,hW3⟩:∃W3,W3=w2.alloc (.cells #[.int .i64 (K:Int),.string (str s),.int .i64 V,.int .i64 (P:Int)] 43):=⟨_,rfl⟩
  have hb3:Below w2.heap.size w2 W3:=by rw[hW3];exact(qB _ _).alloc (qL _) _
  have hp3:W3.heap[w2.heap.size]?=some (.cells #[.int .i64 (K:Int),.string (str s),.int .i64 V,.int .i64 (P:Int)] 43 (0,0)):=by rw[hW3];exact heap_alloc_new w2 _
  have HR3:Hid (Cd W3.drew b g cap dv ts xb (stepS σ)):=Hd (hr.out.below (below_dr hb3 1))
  have HK3:Hid (RX b xb W W3.drew):=Hd (hk.out.trans (RX.of_below (below_dr hb3 1) (ql hr.out.size) hr.out.xlt))
  obtain⟨⟨x0,x1,x2,x3⟩,xf⟩:=four_of hp3
  have hbw:b<w2.heap.size:=hr.out.size
  have HP3:=Hd (show W3.drew.heap[w2.heap.size]?=_ from hp3)
  rw[←hW3]
  clear hW3 hb3 hp3 xf hr hk
  go_region_with (first
   | (go_at_call 76;(with_reducible refine(BT.out _).mono ?_);rintro e w4 ⟨rfl,rfl⟩)
   | ((with_reducible refine(C2.out _ ?_).mono ?_);(focus with_reducible exact HR3);rintro e w5 ⟨rfl,hk5⟩;refine dummyAny prog w5 ⟨rfl,HK3.out.trans hk5.out,.inr ⟨HT.out,rfl⟩⟩ ?_))
  all_goals trivial
theorem deeper_deep (b g cap:Nat) (dv:Value) (ts:List Tok) (xb:Nat→Prop) (σ:RS) (F:Value) (W:World) (h:Hid (Cd W b g cap dv ts xb σ)) (hc:σ.code=0) (hd:σ.deep=30) :
  Calls prog 47 #[.pointer (some ⟨b,0,none⟩),F] W fun r Y=>CdBad b xb W 3 ((tokL ts σ.at_).at_:Int) r Y:=by
 have RF:=Hd (refusal_any b g cap dv ts xb σ 3 W h)
 obtain⟨o,c,⟨c0,c1,c2,c3,fr⟩,hx⟩:=h.out.cells
 rw[hd] at c3
 clear c0 c1 c2 fr hx hd hc
 go_enter Tryz.func47,Tryz.ntmps47
 go_wp2_with (go_at_call 60;(with_reducible refine RF.out.mono ?_);rintro e w3 ⟨rfl,hb3⟩)
 exact⟨rfl,rfl,Hd (RX.of_below hb3 (ql h.out.size) h.out.xlt)⟩
theorem deeper_go (b g cap:Nat) (dv:Value) (ts:List Tok) (xb:Nat→Prop) (σ:RS) (F:Nat) (bx:Value) (v:Int) (τ:RS) (W:World) (h:Hid (Cd W b g cap dv ts xb σ)) (hc:σ.code=0) (hd:σ.deep≠30) (d0:0≤σ.deep) (d30:σ.deep≤30) (t0:0≤τ.deep) (t30:τ.deep≤31)
  (hF:∀args w,(callFunc F args).run prog w=.ok (.enter F args) w)
  (C:∀W',Hid (Cd W' b g cap dv ts xb { σ with deep:=σ.deep+1 })→Hid (RX b xb W W')→Calls prog F #[bx] W' fun r Y=>CdRet b g cap dv ts xb W' (.int .i64 v) τ r Y) :
  Calls prog 47 #[.pointer (some ⟨b,0,none⟩),.func (.func F) #[] #[bx]] W fun r Y=>CdRet b g cap dv ts xb W (.int .i64 v) (leaveS τ) r Y:=by
 obtain⟨o,c,⟨c0,c1,c2,c3,fr⟩,hx⟩:=h.out.cells
 have f3:=fr 3
 obtain⟨d,hdd⟩:∃d,d=σ.deep:=⟨_,rfl⟩
 rw[←hdd] at c3 hd d0 d30
 have HD:=Hd hdd
 obtain⟨W1,hW1⟩:∃W1,W1=W.setCell ⟨b,3,none⟩ (.int .i64 (d+1)):=⟨_,rfl⟩
 have H1:Hid (Cd W1 b g cap dv ts xb { σ with deep:=σ.deep+1 }):=Hd (by rw[hW1,HD.out];exact h.out.setDeep (σ.deep+1))
 have HR1:Hid (RX b xb W W1):=Hd (by rw[hW1];exact RX.set h.out.xnb 3 _)
 have q1:(d ==30)=false:=beq_false_of_ne hd
 have C1:=Hd (C W1 H1 HR1)
 clear C c0 c1 c2 fr hx hdd
 by_cases hτ:τ.code=0
 ·have C2:=Hd (C1.out.mono fun r Y hh=>hh.ok hτ)
  have HT:=Hd hτ
  have HTD:=Hd (show _∧_ from⟨t0,t30⟩)
  clear C1 hτ t0 t30 hc
  go_enter Tryz.func47,Tryz.ntmps47
  go_wp2_with fail
  rw[←hW1]
  clear hW1
  refine C2.out.mono ?_
  rintro e w2 ⟨rfl,hr,hk⟩
  obtain⟨oo,cc,⟨y0,y1,y2,y3,yf⟩,yx⟩:=hr.out.cells
  have yf3:=yf 3
  obtain⟨td,htd⟩:∃td,td=τ.deep:=⟨_,rfl⟩
  rw[←htd] at y3
  have e0:0≤td:=by rw[htd];exact HTD.out.1
  have e1:td≤31:=by rw[htd];exact HTD.out.2
  have HTE:=Hd htd
  clear y0 y1 y2 yf yx htd
  dsimp only
  go_wp2_with fail
  go_ret
  have hcd:=hr.out.setDeep (td-1)
  exact⟨HR1.out.trans (hk.out.trans (RX.set h.out.xnb 3 _)),.inl ⟨HT.out,rfl,by unfold leaveS;rw[←HTE.out];exact hcd⟩⟩
 ·have C2:=Hd (C1.out.mono fun r Y hh=>hh.bad hτ)
  have HT:=Hd hτ
  clear C1 hτ t0 t30 hc
  go_enter Tryz.func47,Tryz.ntmps47
  go_wp2_with fail
  rw[←hW1]
  clear hW1
  refine C2.out.mono ?_
  rintro e w2 ⟨rfl,hk⟩
  exact⟨rfl,HR1.out.trans hk.out,.inr ⟨HT.out,rfl⟩⟩
end Go.Proofs.YtpfmlfcaadnnpaaGreatDoor
