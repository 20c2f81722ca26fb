import Derived.Test.YtdlmfeflinbbjaaGreatAstOpen
import Derived.WalkKit
import Derived.Outline
import Derived.Lib.Hide
import Derived.Deep.QuietTactic
import Derived.BigQuiet
import Derived.Deep.Draws
import Derived.IntWalk
namespace Go.Proofs.YtdlmfeflinbbjaaGreat
open Go.Lib (hid)
open Go.RowKit
theorem below_al {a w:World} (h:Below a.heap.size a w) (o:Obj):Below a.heap.size a (w.alloc o):=h.alloc h.size o
theorem below_dr {B:Nat} {a w:World} (h:Below B a w) (n:Nat):Below B a (w.drewN n):=⟨h.os,h.tape,h.output,h.size,h.block⟩
def litLen:Value→Nat | .int _ n=>n.toNat | _=>0
def wEx (x:Ex):Nat:=x.args.length+x.name.size / 100+x.state.size / 100
def wDe (d:De):Nat:=d.params.length+d.name.size / 100
def Ix (t sz:Nat) (s:Value) (b off:Nat) (j:Nat):Prop:=∀ W,(Instr.indexAt t s (.int .i64 (j:Int))).run Tryz.prog W = .ok (.pointer (some ⟨b,off+j*sz,none⟩)) W
theorem ix_exs {o:Option Addr} {n cap b off:Nat} (h:0 < n→o = some ⟨b,off,none⟩) {j:Nat} (hj:j < n) (hn:n≤9223372036854775807):Ix 23 9 (.slice o n cap) b off j:=by
  intro W
  rw [h (by omega)]
  have h1:(j:Int) < (n:Int):=by omega
  have h2:(j:Int)≤9223372036854775807:=by omega
  go_simp
theorem ix_des {o:Option Addr} {n cap b off:Nat} (h:0 < n→o = some ⟨b,off,none⟩) {j:Nat} (hj:j < n) (hn:n≤9223372036854775807):Ix 22 7 (.slice o n cap) b off j:=by
  intro W
  rw [h (by omega)]
  have h1:(j:Int) < (n:Int):=by omega
  have h2:(j:Int)≤9223372036854775807:=by omega
  go_simp
theorem ix_its {o:Option Addr} {n cap b off:Nat} (h:0 < n→o = some ⟨b,off,none⟩) {j:Nat} (hj:j < n) (hn:n≤9223372036854775807):Ix 42 9 (.slice o n cap) b off j:=by
  intro W
  rw [h (by omega)]
  have h1:(j:Int) < (n:Int):=by omega
  have h2:(j:Int)≤9223372036854775807:=by omega
  go_simp
theorem ix_ints {o:Option Addr} {n cap b off:Nat} (h:0 < n→o = some ⟨b,off,none⟩) {j:Nat} (hj:j < n) (hn:n≤9223372036854775807):Ix 33 1 (.slice o n cap) b off j:=by
  intro W
  rw [h (by omega)]
  have h1:(j:Int) < (n:Int):=by omega
  have h2:(j:Int)≤9223372036854775807:=by omega
  go_simp
structure Small (p:Pr):Prop where
  exprs:p.exprs.length≤300
  decls:p.decls.length≤60
  ex:∀ x∈p.exprs,wEx x≤600
  de:∀ d∈p.decls,wDe d≤600∧d.items.length≤600∧∀ y∈d.items,y.states.length≤600
def GreatPost (p:Pr) (w:World) (e:Ending) (w' : World):Prop:=∃ g:Bool,e = .returned (.bool g)∧(g = false→Small p)∧Below w.heap.size w w'
def SumEx (p:Pr) (k q:Nat):Prop:=∀ i,i < k→∀ x,p.exprs[i]? = some x→wEx x≤q
def SumIt (d:De) (k q:Nat):Prop:=k≤q∧∀ i,i < k→∀ y,d.items[i]? = some y→y.states.length≤q
def SumDe (p:Pr) (k q:Nat):Prop:=∀ i,i < k→∀ d,p.decls[i]? = some d→wDe d≤q∧(600 < q∨SumIt d d.items.length q)
theorem sumEx_succ {p:Pr} {k q:Nat} {x:Ex} (h:SumEx p k q) (hx:p.exprs[k]? = some x):SumEx p (k+1) (q+x.args.length+x.name.size / 100+x.state.size / 100):=by
  intro i hi y hy
  rcases Nat.lt_or_ge i k with h1 | h1
  · have:=h i h1 y hy;omega
  · obtain rfl:i = k:=by omega
    rw [hx] at hy
    obtain rfl:=Option.some.inj hy
    unfold wEx;omega
theorem great_many (o1 o2:Option Addr) (cap dcap n m:Nat) (nl:(301:Int)≤n) (w:World) (p:Pr) :
    Calls Tryz.prog 10 #[.agg #[(.slice o1 m dcap),(.slice o2 n cap)]] w fun e w'=>GreatPost p w e w':=by
  have g1:decide ((300:Int) < (n:Int)) = true:=decide_eq_true (by omega)
  go_enter Tryz.func10,Tryz.ntmps10
  go_wp2_with fail
  go_ret
  exact ⟨_,rfl,fun h=>by simp at h,below_al (Below.refl _ _) _⟩
theorem great_more (o1 o2:Option Addr) (cap dcap n m:Nat) (nl:(n:Int)≤300) (ml:(61:Int)≤m) (w:World) (p:Pr) :
    Calls Tryz.prog 10 #[.agg #[(.slice o1 m dcap),(.slice o2 n cap)]] w fun e w'=>GreatPost p w e w':=by
  have g1:decide ((300:Int) < (n:Int)) = false:=decide_eq_false (by omega)
  have g2:decide ((60:Int) < (m:Int)) = true:=decide_eq_true (by omega)
  go_enter Tryz.func10,Tryz.ntmps10
  go_wp2_with fail
  go_ret
  exact ⟨_,rfl,fun h=>by simp at h,below_al (Below.refl _ _) _⟩
theorem sumIt_succ {d:De} {l z:Nat} {y:It} (h:SumIt d l z) (hy:d.items[l]? = some y):SumIt d (l+1) (z+1+y.states.length):=by
  refine ⟨by have:=h.1;omega,fun i hi x hx=>?_⟩
  rcases Nat.lt_or_ge i l with h1 | h1
  · have:=h.2 i h1 x hx;omega
  · obtain rfl:i = l:=by omega
    rw [hy] at hx
    obtain rfl:=Option.some.inj hx
    omega
theorem sumDe_succ {p:Pr} {j r r1 l z:Nat} {d:De} (h:SumDe p j r) (hd:p.decls[j]? = some d) (hr:r1 = r+d.params.length+d.name.size / 100) (hI:SumIt d l z) (hz:r1≤z) (hl:l = d.items.length∨l = 1000):SumDe p (j+1) z:=by
  intro i hi x hx
  rcases Nat.lt_or_ge i j with h1 | h1
  · obtain ⟨h2,h3⟩:=h i h1 x hx
    refine ⟨by omega,?_⟩
    rcases h3 with h3 | h3
    · exact .inl (by omega)
    · exact .inr ⟨by have:=h3.1;omega,fun i hi y hy=>by have:=h3.2 i hi y hy;omega⟩
  · obtain rfl:i = j:=by omega
    rw [hd] at hx
    obtain rfl:=Option.some.inj hx
    refine ⟨by unfold wDe;omega,?_⟩
    rcases hl with rfl | rfl
    · exact .inr hI
    · exact .inl (by have:=hI.1;omega)
theorem small_of {p:Pr} {n m q r:Nat} (hn:p.exprs.length = n) (hm:p.decls.length = m) (nl:(n:Int)≤300) (ml:(m:Int)≤60) (h1:SumEx p n q) (h2:SumDe p m r) (hq:q≤r) (hr:(r:Int)≤600):Small p:=by
  refine ⟨by omega,by omega,fun x hx=>?_,fun d hd=>?_⟩
  · obtain ⟨i,hi,rfl⟩:=List.mem_iff_getElem.1 hx
    have:=h1 i (by omega) _ (List.getElem?_eq_getElem hi)
    omega
  · obtain ⟨i,hi,rfl⟩:=List.mem_iff_getElem.1 hd
    obtain ⟨h3,h4⟩:=h2 i (by omega) _ (List.getElem?_eq_getElem hi)
    have h5:SumIt p.decls[i] p.decls[i].items.length r:=by
      rcases h4 with h4 | h4
      · omega
      · exact h4
    refine ⟨by omega,by have:=h5.1;omega,fun y hy=>?_⟩
    obtain ⟨k,hk,rfl⟩:=List.mem_iff_getElem.1 hy
    have:=h5.2 k hk _ (List.getElem?_eq_getElem hk)
    omega
set_option maxHeartbeats 8000000 in
set_option maxRecDepth 100000 in
theorem great_core (o1 o2:Option Addr) (b off cap db doff dcap:Nat) (p:Pr) (n m:Nat) (hn:Hid (p.exprs.length = n)) (hm:Hid (p.decls.length = m)) (nl:(n:Int)≤300) (ml:(m:Int)≤60) (w:World)
    (he:Hid (0 < n→o2 = some ⟨b,off,none⟩)) (hd:Hid (0 < m→o1 = some ⟨db,doff,none⟩))
    (hc:Hid (∀ i,i < n→∀ x,p.exprs[i]? = some x→ExAt (w.alloc (.cells #[(.slice o1 m dcap),(.slice o2 n cap)] 25)) b (off+i*9) x))
    (hdc:Hid (∀ i,i < m→∀ x,p.decls[i]? = some x→DeAt (w.alloc (.cells #[(.slice o1 m dcap),(.slice o2 n cap)] 25)) db (doff+i*7) x)) :
    Calls Tryz.prog 10 #[.agg #[(.slice o1 m dcap),(.slice o2 n cap)]] w fun e w'=>GreatPost p w e w':=by
  go_enter Tryz.func10,Tryz.ntmps10
  go_wp2_with fail
  go_loopw [3,4] (fun s i wr=>∃ (k q:Nat),i = .int .i64 k∧s = .int .i64 q∧k≤n∧(q:Int)≤k*500000000000000∧Hid (SumEx p k q)∧∃ a,wr = (w.alloc (.cells #[(.slice o1 m dcap),(.slice o2 n cap)] 25)).drewN a) (fun _ i _=>n - litLen i)
  case atStart=>exact ⟨0,0,rfl,rfl,by omega,by omega,hid (fun i hi=>by omega),0,rfl⟩
  case round =>
    obtain ⟨k,q,rfl,rfl,hk,hq,hS,a,rfl⟩:=hrel
    rcases Nat.lt_or_ge k n with hlt | hge
    · have hl:(k:Int) < (n:Int):=by omega
      obtain ⟨x,hxk⟩:∃ x,p.exprs[k]? = some x:=⟨_,List.getElem?_eq_getElem (by have:=hn.out;omega)⟩
      obtain ⟨s,c0,c1,c2,c3,c4,c5,c6,c7,c8,⟨oa,capa,ba,offa,rfl,ha1,ha2,ha3,ha4⟩,hok⟩:=hc.out k hlt x hxk
      clear ha3 ha4
      obtain ⟨_,_,_,_,_,k1,k2,k3,_⟩:=hok
      unfold reachN at k1 k2 k3
      have ix:=ix_exs (cap:=cap) he.out hlt (by omega)
      unfold Ix at ix
      have hS':=hid (sumEx_succ hS.out hxk)
      clear hxk
      go_wp2_with fail
      go_quiet (fail)
      go_wp2_with fail
      go_roundw
      case rel=>exact ⟨k+1,q+x.args.length+x.name.size / 100+x.state.size / 100,by go_num,by go_num,by omega,by omega,hS',_,rfl⟩
      case measure=>simp [litLen];omega
    · obtain rfl:k = n:=by omega
      go_wp2_with fail
      go_loopw [3,5] (fun s i wr=>∃ (j r:Nat),i = .int .i64 j∧s = .int .i64 r∧j≤m∧(r:Int)≤150000000000000000+j*141400000000000000∧q≤r∧Hid (SumDe p j r)∧∃ a,wr = (w.alloc (.cells #[(.slice o1 m dcap),(.slice o2 k cap)] 25)).drewN a) (fun _ i _=>m - litLen i)
      case atStart=>exact ⟨0,q,rfl,rfl,by omega,by omega,by omega,hid (fun i hi=>by omega),a,rfl⟩
      case round =>
        clear a
        obtain ⟨j,r,rfl,rfl,hj,hr,hqr,hD,a,rfl⟩:=hrel
        rcases Nat.lt_or_ge j m with hlt | hge
        · have hl:(j:Int) < (m:Int):=by omega
          obtain ⟨d,hdj⟩:∃ x,p.decls[j]? = some x:=⟨_,List.getElem?_eq_getElem (by have:=hm.out;omega)⟩
          obtain ⟨s,t,c0,c1,c2,c3,c4,c5,c6,⟨op,capp,bp,offp,rfl,hp1,hp2,hp3,hp4⟩,⟨oi,capi,bi,offi,rfl,hi1,hi2,hi3,hi4⟩,hok⟩:=hdc.out j hlt d hdj
          clear hp3 hp4
          have HI3:=hid hi3
          have HI4:=hid hi4
          clear hi3 hi4
          obtain ⟨_,_,k1,k2,k3⟩:=hok
          unfold reachN at k1 k2 k3
          have ix:=ix_des (cap:=dcap) hd.out hlt (by omega)
          unfold Ix at ix
          obtain ⟨ni,hni⟩:∃ ni,ni = d.items.length:=⟨_,rfl⟩
          rw [← hni] at HI3 HI4 c3 k3
          have HN:=hid hni
          clear hni
          obtain ⟨r1,hr1⟩:∃ r1,r1 = r+d.params.length+d.name.size / 100:=⟨_,rfl⟩
          have HR:=hid hr1
          have hDJ:=hid hdj
          clear hdj
          have hr1a:(r1:Int)≤r+142200000000000:=by omega
          have hr1b:r≤r1:=by omega
          go_wp2_with fail
          go_quiet (fail)
          rw [show (r:Int)+(d.params.length:Int)+(d.name.size:Int) / 100 = (r1:Int) by omega]
          clear hr1 c1 c2
          go_wp2_with fail
          go_loop [3,6] (fun s i=>∃ (l z:Nat),i = .int .i64 l∧s = .int .i64 z∧l≤ni∧(l:Int)≤1000∧r1≤z∧(z:Int)≤r1+l*140737488351233∧Hid (SumIt d l z)) (fun _ i=>ni - litLen i)
          case atStart=>exact ⟨0,r1,rfl,rfl,by omega,by omega,by omega,by omega,hid ⟨Nat.zero_le _,fun i hi=>by omega⟩⟩
          case round =>
            obtain ⟨l,z,rfl,rfl,hl1,hl2,hz1,hz2,hI⟩:=hrel
            by_cases hgo:l < ni∧l < 1000
            · obtain ⟨hg1,hg2⟩:=hgo
              have g1:(l:Int) < (ni:Int):=by omega
              have g2:(l:Int) < 1000:=by omega
              obtain ⟨y,hyl⟩:∃ x,d.items[l]? = some x:=⟨_,List.getElem?_eq_getElem (by have:=HN.out;omega)⟩
              obtain ⟨sy,e0,e1,e2,e3,e4,e5,e6,e7,e8,⟨os,caps,bs,offs,rfl,hs1,hs2,hs3,hs4⟩,hoy⟩:=HI4.out l hg1 y hyl
              clear hs3 hs4
              obtain ⟨_,_,_,_,_,_,k4,_⟩:=hoy
              unfold reachN at k4
              have hI':=hid (sumIt_succ hI.out hyl)
              have ix2:=ix_its (cap:=capi) HI3.out hg1 (by omega)
              unfold Ix at ix2
              clear hyl
              go_wp2_with fail
              go_round
              case rel=>exact ⟨l+1,by omega,z+1+y.states.length,by omega,by omega,by omega,by omega,by omega,hI'⟩
              case measure=>simp [litLen];omega
            · have fin:Hid (SumDe p (j+1) z):=hid (sumDe_succ hD.out hDJ.out HR.out hI.out hz1 (by rw [← HN.out];omega))
              by_cases hni:l < ni
              · have g1:(l:Int) < (ni:Int):=by omega
                have g2:decide ((l:Int) < 1000) = false:=decide_eq_false (by omega)
                clear hgo
                go_wp2_with fail
                go_roundw
                case rel=>exact ⟨j+1,z,by go_num,rfl,by omega,by omega,by omega,fin,_,rfl⟩
                case measure=>simp [litLen];omega
              · have g1:decide ((l:Int) < (ni:Int)) = false:=decide_eq_false (by omega)
                clear hgo
                go_wp2_with fail
                go_roundw
                case rel=>exact ⟨j+1,z,by go_num,rfl,by omega,by omega,by omega,fin,_,rfl⟩
                case measure=>simp [litLen];omega
        · obtain rfl:j = m:=by omega
          have fin:Hid (decide (600 < (r:Int)) = false→Small p):=hid fun hh=>small_of hn.out hm.out nl ml hS.out hD.out hqr (by have:=of_decide_eq_false hh;omega)
          go_wp2_with fail
          go_ret
          exact ⟨_,rfl,fin.out,below_dr (below_al (Below.refl _ _) _) _⟩
theorem great_any (sd se:Value) (p:Pr) (w:World) (h:ProgAt w sd se p):Calls Tryz.prog 10 #[.agg #[sd,se]] w fun e w'=>GreatPost p w e w':=by
  obtain ⟨⟨o1,dcap,db,doff,rfl,hd1,hd2,hd3,hd4⟩,⟨o2,cap,b,off,rfl,he1,he2,he3,he4⟩,h3,h4⟩:=h
  have hb:=(Below.refl w.heap.size w).alloc (Nat.le_refl _) (.cells #[(.slice o1 p.decls.length dcap),(.slice o2 p.exprs.length cap)] 25)
  by_cases hn:p.exprs.length≤300
  · by_cases hm:p.decls.length≤60
    · exact great_core o1 o2 b off cap db doff dcap p _ _ (hid rfl) (hid rfl) (by omega) (by omega) w (hid he3) (hid hd3) (hid fun i hi x hx=>(he4 i hi x hx).below hb) (hid fun i hi x hx=>(hd4 i hi x hx).below hb)
    · exact great_more o1 o2 cap dcap _ _ (by omega) (by omega) w p
  · exact great_many o1 o2 cap dcap _ _ (by omega) w p
end Go.Proofs.YtdlmfeflinbbjaaGreat
