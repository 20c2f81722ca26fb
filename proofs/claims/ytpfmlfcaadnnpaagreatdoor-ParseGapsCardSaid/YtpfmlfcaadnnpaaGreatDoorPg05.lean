import Derived.Test.YtpfmlfcaadnnpaaGreatDoorPg04
set_option maxHeartbeats 16000000
set_option maxRecDepth 100000
open Go.Proofs.Tryz(prog)
namespace Go.Proofs.YtpfmlfcaadnnpaaGreatDoor.Lx
open Go.RowKit
def RefOne:Prop:=∀(l:List UInt8) (a:Nat),a<l.length→l.length≤20000→∀W,
 (oneL (l.drop a)≠none→Calls prog 28 #[.string (str l),.int .i64 (a:Int)] W fun e w'=>OneRet ((tokAt l a).kind:Int) (tokAt l a).v (a:Int) (str (tokAt l a).text) true W e w') ∧
 (oneL (l.drop a)=none→Calls prog 28 #[.string (str l),.int .i64 (a:Int)] W fun e w'=>∃(k v a':Int) (S:ByteArray),OneRet k v a' S false W e w')
theorem own_below {B:Nat} {e:TypeId} {k:Nat} {v:Value} {n:Nat} {xs:List Value} {w w':World} (h:w.ownsRow B e k v n xs) (hb:Below w.heap.size w w'):w'.ownsRow B e k v n xs :=
 h.kept (row:=none) ⟨hb.os,hb.tape,hb.output,hb.size,fun j hj _=>hb.block j hj⟩ (by cases hv:v.ownBlock <;> simp)
theorem wpList_append_tok (w:World) {ops:Array Oper} {rest:List Oper} {o:Oper} {a:Act} {Q:Exit→Act→World→Prop}
  (hg:o.guard=none) (s x:Operand) (hop:o.op=Op.call { callee:=Callee.builtin Builtin.append,args:=#[s,x],argTypes:=#[39,39] })
  (base:Nat) (v:Value) (k:Nat) (xs:List Value) (hs:a.eval s=v) (hown:w.ownsRow base 43 4 v k xs) (ad:Addr) (news:List Value) (hx:a.eval x=.slice (some ad) 1 1) (hn:news.length=1*4)
  (hc:∀j u,news[j]?=some u→w.cell? (ad.add j)=some u) (h1c:∀u ∈ news,u.oneCell'=true) (hk:k≤40000) (b3:base≤w.heap.size)
  (hK:∀v' w',w'.ownsRow base 43 4 v' (k+1) (xs++news)→w.grownBy w' v.ownBlock→wpList prog ops Q rest (a.put o.dst v') w') :
  wpList prog ops Q (o :: rest) a w:=by
 obtain⟨i,h2,h3,h4,h5⟩:=info_parts tok_info
 refine wpList_plain hg fun K hK'=>?_
 obtain⟨v',w',hrun,r1,r2,_⟩:=run_append_own (P:=prog) w base 39 o.type 43 i _ 4 40 Tryz.underlying39 h2 h3 h4 h5 rfl (by decide) v k xs hown ad 1 1 news hn hc h1c (by unfold maxLen;omega) (by omega) b3
 unfold Oper.wp execOp
 simp only[hop,resolve,invoke,builtin,Sem.run_bind,Sem.run_pure,Result.andThen_ok,List.map_toArray,List.map_cons,List.map_nil,hs,hx,hrun]
 exact hK' _ _ (hK v' w' r1 r2)
def Room2 (w:World) (g:Nat):Prop:=w.cell? ⟨g,0,none⟩=some (.int .i64 0)∧w.cell? ⟨g,1,none⟩=some (.int .i64 0)∧w.frozen? ⟨g,0,none⟩=false∧w.frozen? ⟨g,1,none⟩=false
theorem Room2.below {w w':World} {g B:Nat} (h:Room2 w g) (hb:Below B w w') (hg:g<B):Room2 w' g :=
 ⟨(hb.cell (p:=⟨g,0,none⟩) hg).trans h.1,(hb.cell (p:=⟨g,1,none⟩) hg).trans h.2.1,(hb.frozen (p:=⟨g,0,none⟩) hg).trans h.2.2.1,(hb.frozen (p:=⟨g,1,none⟩) hg).trans h.2.2.2⟩
theorem room2_new (w:World) (T:TypeId):Room2 (w.alloc (.cells #[.int .i64 0,.int .i64 0] T)) w.heap.size :=
 ⟨by rw[World.cell?_alloc_new];rfl,by rw[World.cell?_alloc_new];rfl,World.frozen?_alloc_new _ _ _ _,World.frozen?_alloc_new _ _ _ _⟩
theorem ref_long (l:List UInt8) (n:Nat) (hs:(str l).size=n) (nl:(20000:Int)<(n:Int)) (w:World) :
  Calls prog 13 #[.string (str l)] w fun e w'=>NoRow 10 0 w e w':=by
 have q:decide ((20000:Int)<(n:Int))=true:=qT nl
 go_enter Tryz.func13,Tryz.ntmps13
 go_wp2_with fail
 exact bodyPost_ret (v:=.tuple #[.slice none 0 0,.agg #[.int .i64 10,.int .i64 0]]) (by simp[results,Tryz.results13,go_sem]) rfl ⟨rfl,(qB w.heap.size w).alloc (qL _) _⟩
def LexAt (l:List UInt8) (ts:List Tok) (r:Option Nat) (w:World) (a:Nat) (v:Value) (m:Nat) (wr:World):Prop :=
 ∃pre rest:List Tok,ts=pre++rest∧pre.length=m∧Toks l a rest r∧wr.ownsRow (w.heap.size+1) 43 4 v m (tokCells pre)∧Below (w.heap.size+1) (w.alloc (.cells #[.int .i64 0,.int .i64 0] 29)) wr
theorem ref_short (O:Hid RefOne) (l:List UInt8) (n:Nat) (hn:Hid (l.length=n)) (hs:(str l).size=n) (nl:(n:Int)≤20000) (ts:List Tok) (r:Option Nat) (ht:Hid (lexT l ts r)) (w:World) :
  Calls prog 13 #[.string (str l)] w fun e w'=>match r with | some f=>NoRow 1 (f:Int) w e w' | none=>SomeRow (ts++[endT l.length]) (ts.length+1) w e w':=by
 have q:decide ((20000:Int)<(n:Int))=false:=qF (by omega)
 have SK:Hid (∀(a:Nat),a≤n→∀W,Calls prog 27 #[.string (str l),.int .i64 (a:Int)] W fun e w'=>e=.returned (.int .i64 ((gapTo false l a:Nat):Int))∧w'=W):=Hd fun a ha W=>skip_ref l (by have:=hn.out;omega) a (by have:=hn.out;omega) W
 have HB:=Hd ((qB w.heap.size w).alloc (qL _) (.cells #[.int .i64 0,.int .i64 0] 29))
 have RM:=Hd (room2_new w 29)
 obtain⟨G0,hG0⟩:∃G0,G0=gapTo false l 0:=⟨_,rfl⟩
 have S0:Hid (∀W,Calls prog 27 #[.string (str l),.int .i64 0] W fun e w'=>e=.returned (.int .i64 (G0:Int))∧w'=W):=Hd (by rw[hG0];exact SK.out 0 (by omega))
 have HG0:=Hd hG0
 clear hG0
 go_enter Tryz.func13,Tryz.ntmps13
 go_wp2_with (go_at_call 27;((with_reducible refine(S0.out _).mono ?_);rintro e w' ⟨rfl,rfl⟩))
 go_loopw [5,4] (fun i v wr=>∃a m:Nat,i=.int .i64 a∧a≤n∧m≤n∧Hid (LexAt l ts r w a v m wr)) (fun i _ _=>n-litLen i)
 case atStart =>
  exact⟨G0,0,rfl,by rw[←hn.out,HG0.out];exact gapTo_le false (Nat.zero_le _),Nat.zero_le _,Hd ⟨[],ts,rfl,rfl,by rw[HG0.out];exact ht.out,qO _ _ _ _,qB _ _⟩⟩
 case round =>
  obtain⟨a,m,rfl,ha,hm,hL⟩:=hrel
  rcases Nat.lt_or_ge a n with hlt | hge
  ·have q3:decide ((a:Int)<(n:Int))=true:=qT (by omega)
   have O1:=Hd (O.out l a (by have:=hn.out;omega) (by have:=hn.out;omega) wr)
   by_cases ho:oneL (l.drop a)=none
   ·have C:Hid (Calls prog 28 #[.string (str l),.int .i64 (a:Int)] wr fun e w'=>∃(k v a':Int) (S:ByteArray),e=.returned (.tuple #[.agg #[.int .i64 k,.string S,.int .i64 v,.int .i64 a'],.bool false])∧Below wr.heap.size wr w'):=Hd (O1.out.2 ho)
    have hr:Hid (r=some a∧∃pre rest:List Tok,Below (w.heap.size+1) (w.alloc (.cells #[.int .i64 0,.int .i64 0] 29)) wr):=Hd (by
     obtain⟨pre,rest,_,_,h3,_,h5⟩:=hL.out
     cases h3 with
     | fin h=>exact absurd h (by have:=hn.out;omega)
     | bad=>exact⟨rfl,[],[],h5⟩
     | tok _ h1=>exact absurd ho h1)
    obtain rfl:=hr.out.1
    have BB:Hid (Below (w.heap.size+1) (w.alloc (.cells #[.int .i64 0,.int .i64 0] 29)) wr):=Hd (by obtain⟨_,_,_,h⟩:=hr.out;exact h)
    have SB:Hid (w.heap.size+1≤wr.heap.size):=Hd (by have:=BB.out.size;simpa using this)
    clear ho
    go_wp2_with (go_at_call 28;((with_reducible refine C.out.mono ?_);rintro e w1 ⟨kk,vv,aa,S,rfl,hb1⟩;have B1:=Hd ((BB.out.trans (hb1.mono SB.out)).alloc (Nat.le_trans SB.out hb1.size) (.cells #[.int .i64 kk,.string S,.int .i64 vv,.int .i64 aa] 43));obtain⟨r0,r1,f0,f1⟩:=RM.out.below B1.out (Nat.lt_succ_self _);clear hb1))
    exact bodyPost_ret (v:=.tuple #[.slice none 0 0,.agg #[.int .i64 1,.int .i64 (a:Int)]]) (by simp[results,Tryz.results13,go_sem,r0,r1]) rfl ⟨rfl,((HB.out.trans (B1.out.mono (Nat.le_succ _))).setCell (p:=⟨w.heap.size,0,none⟩) (qL _) _).setCell (p:=⟨w.heap.size,1,none⟩) (qL _) _⟩
   ·have hlen:=tokAt_len ho
    have hat:(tokAt l a).at_=a:=by unfold tokAt;cases oneL (l.drop a) <;> rfl
    have hO:=O1.out.1 ho
    obtain⟨pre,rest,hts,hpm,hrest,hrow,hBB⟩:=hL.out
    obtain⟨rest2,rfl,hrest2⟩:∃rest2,rest=tokAt l a :: rest2∧Toks l (gapTo false l (a+(tokAt l a).text.length)) rest2 r:=by
     cases hrest with
     | fin h=>exact absurd h (by have:=hn.out;omega)
     | bad _ h=>exact absurd h ho
     | tok _ _ h=>exact⟨_,rfl,h⟩
    generalize tokAt l a=t at *
    obtain⟨kk,tx,vv,aa⟩:=t
    obtain rfl:aa=a:=hat
    have C:Hid (Calls prog 28 #[.string (str l),.int .i64 (aa:Int)] wr fun e w'=>e=.returned (.tuple #[.agg #[.int .i64 (kk:Int),.string (str tx),.int .i64 vv,.int .i64 (aa:Int)],.bool true])∧Below wr.heap.size wr w'):=Hd hO
    obtain⟨L,hL2⟩:∃L,L=tx.length:=⟨_,rfl⟩
    have hsz:(str tx).size=L:=by rw[str_size,hL2]
    have hl1:1≤L:=by rw[hL2];exact hlen.1
    have hl2:aa+L≤n:=by rw[hL2,←hn.out];exact hlen.2
    have hl3:(L:Int)≤20000:=by omega
    obtain⟨G1,hG1⟩:∃G1,G1=gapTo false l (aa+L):=⟨_,rfl⟩
    have hg1:aa<G1:=by rw[hG1];have:=gapTo_ge false l (aa+L);omega
    have hg2:G1≤n:=by rw[hG1,←hn.out];exact gapTo_le false (by rw[hn.out];exact hl2)
    have SK1:Hid (∀W,Calls prog 27 #[.string (str l),.int .i64 ((aa:Int)+(L:Int))] W fun e w'=>e=.returned (.int .i64 (G1:Int))∧w'=W):=Hd (by rw[hG1];exact SK.out (aa+L) hl2)
    have HR2:Hid (Toks l G1 rest2 r):=Hd (by rw[hG1,hL2];exact hrest2)
    have HTS:=Hd hts
    have HPM:=Hd hpm
    have HROW:=Hd hrow
    have BB:=Hd hBB
    have SB:Hid (w.heap.size+1≤wr.heap.size):=Hd (by have:=hBB.size;simpa using this)
    have hmn:m+1≤n:=by
     have h1:=toks_count ht.out
     have h2:=gapTo_le false (Nat.zero_le l.length)
     rw[hts] at h1
     simp only[List.length_append,List.length_cons] at h1
     have:=hn.out
     omega
    have HM:=Hd hmn
    clear hlen hO hrest hrest2 hts hpm hrow hBB ho hL2 hG1 hmn
    go_wp2_with (first | (go_at_call 28;((with_reducible refine C.out.mono ?_);rintro e w1 ⟨rfl,hb1⟩;have B1:=Hd (BB.out.trans (hb1.mono SB.out));have S1:=Hd (Nat.le_trans SB.out hb1.size);have SW:=Hd hb1.size;have R1:=Hd (own_below HROW.out hb1);have CF:Hid (∀j u,[Value.int .i64 (kk:Int),.string (str tx),.int .i64 vv,.int .i64 (aa:Int)][j]?=some u→((w1.alloc (.cells #[.int .i64 (kk:Int),.string (str tx),.int .i64 vv,.int .i64 (aa:Int)] 43)).alloc (.cells #[.int .i64 (kk:Int),.string (str tx),.int .i64 vv,.int .i64 (aa:Int)] 43)).cell? ((⟨w1.heap.size+1,0,none⟩:Addr).add j)=some u):=Hd (fun j u hju=>by have:=cell_four_new (w1.alloc (.cells #[.int .i64 (kk:Int),.string (str tx),.int .i64 vv,.int .i64 (aa:Int)] 43)) _ _ _ _ 43 j u hju;rwa [World.size_alloc] at this);clear hb1)) | (at_builtin;refine wpList_append_tok _ rfl _ _ rfl (w.heap.size+1) _ m _ rfl ((R1.out.alloc _).alloc _) ⟨w1.heap.size+1,0,none⟩ [.int .i64 (kk:Int),.string (str tx),.int .i64 vv,.int .i64 (aa:Int)] rfl rfl CF.out (by simp[Value.oneCell']) (by have:=HM.out;omega) (by have:=S1.out;simp;omega) ?_;intro v' w3 hown' hgrow;have y1:w3.cell? ⟨w1.heap.size,1,none⟩=some (.string (str tx)):=hgrow.cell (by rw[World.cell?_alloc_old _ _ _ (by simp),World.cell?_alloc_new];rfl) (fun e=>by have:=(HROW.out.lt _ e.symm).2;have:=SW.out;simp at *;omega);have G1':=Hd hown';have G2':=Hd (((B1.out.alloc (by have:=S1.out;simp;omega) (.cells #[.int .i64 (kk:Int),.string (str tx),.int .i64 vv,.int .i64 (aa:Int)] 43)).alloc (by have:=S1.out;simp;omega) (.cells #[.int .i64 (kk:Int),.string (str tx),.int .i64 vv,.int .i64 (aa:Int)] 43)).grown hgrow (by have:=S1.out;simp;omega) (fun k hk=>(HROW.out.lt k hk).1));clear hown' hgrow) | (go_at_call 27;((with_reducible refine(SK1.out _).mono ?_);rintro e w' ⟨rfl,rfl⟩)))
    exact⟨⟨G1,m+1,rfl,hg2,HM.out,Hd ⟨pre++[⟨kk,tx,vv,aa⟩],rest2,by rw[HTS.out];simp,by simp[HPM.out],HR2.out,by rw[tokCells_snoc];exact G1'.out,G2'.out⟩⟩,by simp[litLen];omega⟩
  ·have q3:decide ((a:Int)<(n:Int))=false:=qF (by omega)
   obtain⟨pre,rest,hts,hpm,hrest,hrow,hBB⟩:=hL.out
   obtain⟨rfl,rfl⟩:rest=[]∧r=none:=by
    cases hrest with
    | fin h=>exact⟨rfl,rfl⟩
    | bad h=>exact absurd h (by have:=hn.out;omega)
    | tok h=>exact absurd h (by have:=hn.out;omega)
   have HTS:=Hd (show ts=pre by rw[hts];simp)
   have HPM:=Hd hpm
   have HROW:=Hd hrow
   have BB:=Hd hBB
   have SB:Hid (w.heap.size+1≤wr.heap.size):=Hd (by have:=hBB.size;simpa using this)
   have CF:Hid (∀j u,[Value.int .i64 5,.string ⟨#[]⟩,.int .i64 0,.int .i64 (n:Int)][j]?=some u→(wr.alloc (.cells #[.int .i64 5,.string ⟨#[]⟩,.int .i64 0,.int .i64 (n:Int)] 43)).cell? ((⟨wr.heap.size,0,none⟩:Addr).add j)=some u):=Hd (cell_four_new wr _ _ _ _ 43)
   clear hts hpm hrest hrow hBB
   go_wp2_with (at_builtin;refine wpList_append_tok _ rfl _ _ rfl (w.heap.size+1) _ m _ rfl (HROW.out.alloc _) ⟨wr.heap.size,0,none⟩ [.int .i64 5,.string ⟨#[]⟩,.int .i64 0,.int .i64 (n:Int)] rfl rfl CF.out (by simp[Value.oneCell']) (by omega) (by have:=SB.out;simp;omega) ?_;intro v' w3 hown' hgrow;obtain⟨g',cap',rfl⟩:=ownsRow_succ hown';have G1':=Hd hown';have G2':=Hd ((BB.out.alloc (by have:=SB.out;simp;omega) (.cells #[.int .i64 5,.string ⟨#[]⟩,.int .i64 0,.int .i64 (n:Int)] 43)).grown hgrow (by have:=SB.out;simp;omega) (fun k hk=>(HROW.out.lt k hk).1));obtain⟨r0,r1,f0,f1⟩:=RM.out.below G2'.out (Nat.lt_succ_self _);clear hown' hgrow)
   have hg:=G1'.out.lt g' rfl
   refine bodyPost_ret (v:=.tuple #[.slice (some ⟨g',0,none⟩) (m+1) cap',.agg #[.int .i64 0,.int .i64 0]]) (by simp[results,Tryz.results13,go_sem,r0,r1]) rfl ⟨g',cap',by rw[HTS.out,HPM.out],((HB.out.trans (G2'.out.mono (Nat.le_succ _))).setCell (p:=⟨w.heap.size,0,none⟩) (qL _) _).setCell (p:=⟨w.heap.size,1,none⟩) (qL _) _,by simp;exact hg.2,?_⟩
   have hcells:∀j u,(tokCells (ts++[endT l.length]))[j]?=some u→((w3.setCell ⟨w.heap.size,0,none⟩ (.int .i64 0)).setCell ⟨w.heap.size,1,none⟩ (.int .i64 0)).cell? ⟨g',j,none⟩=some u:=fun j u hu=>by
    rw[World.cell?_setCell_other _ _ _ _ (by intro e;injection e with e;omega),World.cell?_setCell_other _ _ _ _ (by intro e;injection e with e;omega)]
    refine row_cells G1'.out j u ?_
    rw[HTS.out,tokCells_snoc] at hu
    rw[←hn.out]
    exact hu
   intro i t hi
   obtain⟨h1,h2,h3,h4⟩:=tokCells_at hi
   exact⟨hcells _ _ h1,hcells _ _ h2,hcells _ _ h3,hcells _ _ h4⟩
theorem ref_lex (O:RefOne):RefLex:=fun l ts r ht W=>by
 rcases Nat.lt_or_ge 20000 l.length with h | h
 ·exact(ref_long l _ (str_size l) (by omega) W).mono fun e w' h2=>⟨fun _=>h2,fun h3=>absurd h3 (by omega)⟩
 ·exact(ref_short (Hd O) l _ (Hd rfl) (str_size l) (by omega) ts r (Hd ht) W).mono fun e w' h2=>⟨fun h3=>absurd h3 (by omega),fun _=>by cases r <;> exact h2⟩
def SignRet (a:Nat) (o:Option (List UInt8)) (w:World) (e:Ending) (w':World):Prop :=
 (∃s,o=some s∧OneRet 4 0 (a:Int) (str s) true w e w')∨(o=none∧OneRet 0 0 0 ⟨#[]⟩ false w e w')
theorem prefix_eq (d s:List UInt8):s.isPrefixOf d=(d.take s.length ==s):=by
 cases h:s.isPrefixOf d with
 | true=>rw[prefix_take h];simp
 | false =>
  symm
  rw[beq_eq_false_iff_ne]
  intro e
  have:s.isPrefixOf d=true:=by rw[List.isPrefixOf_iff_prefix,←e];exact List.take_prefix _ _
  rw[h] at this
  cases this
theorem one_sign (l:List UInt8) (n:Nat) (hn:Hid (l.length=n)) (nl:(n:Int)≤30000) (hs:(str l).size=n) (a:Nat) (han:(a:Int)<(n:Int)) (c:UInt8) (hix:∀h,(str l)[a]'h=c) (hcl:Hid (isLetter c=false)) (hcd:Hid (isDig c=false)) (o:Option (List UInt8)) (ho:Hid (signOf (l.drop a)=o)) (w:World) :
  Calls prog 28 #[.string (str l),.int .i64 (a:Int)] w fun e w'=>SignRet a o w e w':=by
 have L0:Hid (∀w,Calls prog 53 #[.int .u8 (c.toNat:Int)] w fun e w'=>e=.returned (.bool false)∧w'=w):=Hd fun w=>by have:=letter_ref c w;rwa [hcl.out] at this
 have D0:Hid (∀w,Calls prog 54 #[.int .u8 (c.toNat:Int)] w fun e w'=>e=.returned (.bool false)∧w'=w):=Hd fun w=>by have:=digit_ref c w;rwa [hcd.out] at this
 have hb0:=Hd ((qB w.heap.size w).alloc (qL _) (.cells #[.int .i64 0,.string ⟨#[]⟩,.int .i64 0,.int .i64 0] 43))
 have hrm:=Hd (roomAt_new w 43)
 have hb1:=Hd (((qB (w.heap.size+1) (w.alloc (.cells #[.int .i64 0,.string ⟨#[]⟩,.int .i64 0,.int .i64 0] 43))).alloc (by simp) (.cells signCells 9)))
 have hcell:Hid (∀(j:Nat) s,signsL[j]?=some s→((w.alloc (.cells #[.int .i64 0,.string ⟨#[]⟩,.int .i64 0,.int .i64 0] 43)).alloc (.cells signCells 9)).cell? ⟨w.heap.size+1,j,none⟩=some (.string (str s))):=Hd fun j s hs=>by
  have:((w.alloc (.cells #[.int .i64 0,.string ⟨#[]⟩,.int .i64 0,.int .i64 0] 43)).alloc (.cells signCells 9)).cell? ⟨(w.alloc (.cells #[.int .i64 0,.string ⟨#[]⟩,.int .i64 0,.int .i64 0] 43)).heap.size,j,none⟩=some (.string (str s)):=by
   rw[World.cell?_alloc_new]
   unfold signCells
   rw[List.getElem?_toArray,List.getElem?_map,hs]
   rfl
  rwa [World.size_alloc] at this
 go_enter Tryz.func28,Tryz.ntmps28
 go_wp2_with (first | (go_at_call 53;((with_reducible refine(L0.out _).mono ?_);rintro e w' ⟨rfl,rfl⟩)) | (go_at_call 54;((with_reducible refine(D0.out _).mono ?_);rintro e w' ⟨rfl,rfl⟩)))
 obtain⟨W1,hW1⟩:∃W1,W1=(w.alloc (.cells #[.int .i64 0,.string ⟨#[]⟩,.int .i64 0,.int .i64 0] 43)).alloc (.cells signCells 9):=⟨_,rfl⟩
 rw[←hW1] at hcell hb1
 change Code.wp _ _ _ _ ((w.alloc (.cells #[.int .i64 0,.string ⟨#[]⟩,.int .i64 0,.int .i64 0] 43)).alloc (.cells signCells 9))
 rw[←hW1]
 have HW:=Hd hW1
 have HSZ:Hid (W1.heap.size=w.heap.size+1+1):=Hd (by rw[hW1];simp)
 clear hW1
 go_loopw [12] (fun i wr=>∃j:Nat,j≤17∧Hid ((signsL.take j).all (fun s=>!s.isPrefixOf (l.drop a))=true)∧i=.int .i64 j∧Hid (Below (w.heap.size+1+1) W1 wr)) (fun i _=>17-litLen i)
 case atStart=>exact⟨0,by omega,Hd rfl,rfl,Hd (qB _ _)⟩
 case round =>
  obtain⟨j,hj,hno,rfl,hB⟩:=hrel
  have hBB:=Hd (hb1.out.trans (hB.out.mono (Nat.le_succ _)))
  obtain⟨r0,r1,r2,r3,f0,f1,f2,f3⟩:=hrm.out.below hBB.out (Nat.lt_succ_self _)
  have hBw:=Hd (hb0.out.trans (hBB.out.mono (Nat.le_succ _)))
  rcases Nat.lt_or_ge j 17 with hlt | hge
  ·have q3:decide ((j:Int)<17)=true:=qT (by omega)
   obtain⟨s,hsj⟩:∃s,signsL[j]?=some s:=⟨signsL[j]'(by show j<17;exact hlt),List.getElem?_eq_getElem _⟩
   have hc:wr.cell? ⟨w.heap.size+1,j,none⟩=some (.string (str s)):=(hB.out.cell (p:=⟨w.heap.size+1,j,none⟩) (Nat.lt_succ_self _)).trans (hcell.out j s hsj)
   have HJ:=Hd hsj
   have hk:=signs_len (List.mem_of_getElem? hsj)
   obtain⟨k,hk0⟩:∃k,k=s.length:=⟨_,rfl⟩
   have hks:(str s).size=k:=by rw[str_size,hk0]
   obtain⟨x,hx⟩:∃x,x=a+k:=⟨_,rfl⟩
   have hax:(a:Int)+(k:Int)=(x:Int):=by omega
   have hk2:(k:Int)≤2:=by omega
   have hxa:(a:Int)≤(x:Int):=by omega
   have hx3:(x:Int)≤30010:=by omega
   have HK0:=Hd hk0
   have HX:=Hd hx
   clear hsj hk hk0 hx
   by_cases hxn:(x:Int)≤(n:Int)
   ·have q4:decide ((x:Int)≤(n:Int))=true:=qT hxn
    obtain⟨T,hT⟩:∃T,T=(str l).extract a x:=⟨_,rfl⟩
    have hT2:(str l).extract a x=T:=hT.symm
    have HT:Hid (T=str ((l.drop a).take k)):=Hd (by rw[hT,slice_str,HX.out,Nat.add_sub_cancel_left])
    have hpf:=Hd (prefix_eq (l.drop a) s)
    rcases hBv:s.isPrefixOf (l.drop a) with _ | _
    ·have hq:(T.toList ==(str s).toList)=false:=by rw[HT.out,bytes_eq,HK0.out,←hpf.out];exact hBv
     have HBV:=Hd hBv
     clear hT hBv
     go_wp2_with fail
     go_quiet (fail)
     go_wp2_with fail
     have hdr:Below wr.heap.size wr (wr.drewN nq):=below_dr (qB _ wr) nq
     exact⟨⟨j+1,by omega,Hd (all_take_next _ HJ.out hno.out (by rw[HBV.out];rfl)),rfl,Hd (hB.out.trans (hdr.mono (by have:=hB.out.size;rw[HSZ.out] at this;exact this)))⟩,by simp[litLen];omega⟩
    ·have hq:(T.toList ==(str s).toList)=true:=by rw[HT.out,bytes_eq,HK0.out,←hpf.out];exact hBv
     obtain rfl:o=some s:=by rw[←ho.out];exact sign_hit HJ.out hno.out hBv
     clear hT hBv ho
     go_wp2_with fail
     go_quiet (fail)
     have hdr:Below wr.heap.size wr (wr.drewN nq):=below_dr (qB _ wr) nq
     have hBB2:=Hd (hBB.out.trans (hdr.mono (by have:=hB.out.size;rw[HSZ.out] at this;omega)))
     obtain⟨p0,p1,p2,p3,g0,g1,g2,g3⟩:=hrm.out.below hBB2.out (Nat.lt_succ_self _)
     have hc2:(wr.drewN nq).cell? ⟨w.heap.size+1,j,none⟩=some (.string (str s)):=(hdr.cell (p:=⟨w.heap.size+1,j,none⟩) (by have:=hB.out.size;rw[HSZ.out] at this;show w.heap.size+1<_;omega)).trans hc
     have HDR:=Hd (hb0.out.trans (hBB2.out.mono (Nat.le_succ _)))
     clear hdr
     go_wp2_with fail
     exact bodyPost_ret (v:=.tuple #[.agg #[.int .i64 4,.string (str s),.int .i64 0,.int .i64 (a:Int)],.bool true]) (by simp[results,Tryz.results28,go_sem,p0,p1,p2,p3]) rfl (.inl ⟨s,rfl,rfl,below_four HDR.out (qL _) _ _ _ _⟩)
   ·have q4:decide ((x:Int)≤(n:Int))=false:=qF hxn
    have q5:decide (x≤n)=false:=qF (by omega)
    have q6:¬(x≤n):=by omega
    have HBV:Hid (s.isPrefixOf (l.drop a)=false):=Hd (by
     cases h:s.isPrefixOf (l.drop a) with
     | false=>rfl
     | true =>
      have h2:=List.IsPrefix.length_le (List.isPrefixOf_iff_prefix.1 h)
      rw[List.length_drop] at h2
      have:=HK0.out
      have:=HX.out
      have:=hn.out
      omega)
    go_wp2_with fail
    go_quiet (fail)
    go_wp2_with fail
    have hdr:Below wr.heap.size wr (wr.drewN nq):=below_dr (qB _ wr) nq
    exact⟨⟨j+1,by omega,Hd (all_take_next _ HJ.out hno.out (by rw[HBV.out];rfl)),rfl,Hd (hB.out.trans (hdr.mono (by have:=hB.out.size;rw[HSZ.out] at this;exact this)))⟩,by simp[litLen];omega⟩
  ·have q3:decide ((j:Int)<17)=false:=qF (by omega)
   obtain rfl:o=none:=by rw[←ho.out];exact sign_none (by have:=hno.out;rwa [List.take_of_length_le (by show 17≤j;exact hge)] at this)
   clear ho
   go_wp2_with fail
   exact bodyPost_ret (v:=.tuple #[.agg #[.int .i64 0,.string ⟨#[]⟩,.int .i64 0,.int .i64 0],.bool false]) (by simp[results,Tryz.results28,go_sem,r0,r1,r2,r3]) rfl (.inr ⟨rfl,rfl,below_four hBw.out (qL _) _ _ _ _⟩)
theorem one_num (l:List UInt8) (n:Nat) (hn:Hid (l.length=n)) (nl:(n:Int)≤30000) (hs:(str l).size=n) (a:Nat) (han:(a:Int)<(n:Int)) (c:UInt8) (hix:∀h,(str l)[a]'h=c) (hcl:Hid (isLetter c=false)) (hcd:Hid (isDig c=true)) (x:Nat) (hx:Hid (runTo isDig l a=x)) (R:Nat) (hR:Hid (numTo l a=R)) (haR:(a:Int)≤(R:Int)) (hRn:(R:Int)≤(n:Int))
  (T:ByteArray) (hT:(str l).extract a R=T) (V:Int) (O:Bool) (SG:Hid (∀w,Calls prog 56 #[.string T] w fun e w'=>e=.returned (.tuple #[.int .i64 V,.bool O])∧Below w.heap.size w w')) (w:World) :
  Calls prog 28 #[.string (str l),.int .i64 (a:Int)] w fun e w'=>OneRet 2 V (a:Int) T O w e w':=by
 have DT:Hid (∀(c:UInt8) w,Calls prog 54 #[.int .u8 (c.toNat:Int)] w fun e w'=>e=.returned (.bool (isDig c))∧w'=w):=Hd digit_ref
 have L0:Hid (∀w,Calls prog 53 #[.int .u8 (c.toNat:Int)] w fun e w'=>e=.returned (.bool false)∧w'=w):=Hd fun w=>by have:=letter_ref c w;rwa [hcl.out] at this
 have D0:Hid (∀w,Calls prog 54 #[.int .u8 (c.toNat:Int)] w fun e w'=>e=.returned (.bool true)∧w'=w):=Hd fun w=>by have:=digit_ref c w;rwa [hcd.out] at this
 have hb0:=Hd ((qB w.heap.size w).alloc (qL _) (.cells #[.int .i64 0,.string ⟨#[]⟩,.int .i64 0,.int .i64 0] 43))
 have hrm:=Hd (roomAt_new w 43)
 have HE:Hid (∀i x j:Nat,runTo isDig l j=x→(n≤j∨∃c,l[j]?=some c∧isDig c=false)→j=x):=Hd fun i x j h1 h2=>by
  rcases h2 with h2 | ⟨c,h2,h3⟩
  ·rw[runTo_end (by rw[hn.out];exact h2)] at h1;exact h1
  ·rw[runTo_stop h2 h3] at h1;exact h1
 go_enter Tryz.func28,Tryz.ntmps28
 go_wp2_with (first | (go_at_call 53;((with_reducible refine(L0.out _).mono ?_);rintro e w' ⟨rfl,rfl⟩)) | (go_at_call 54;((with_reducible refine(D0.out _).mono ?_);rintro e w' ⟨rfl,rfl⟩)))
 go_loop [7] (fun i=>∃j:Nat,a≤j∧j≤n∧Hid (runTo isDig l j=x)∧i=.int .i64 j) (fun i=>n-litLen i)
 case atStart=>exact⟨a,qL _,by omega,hx,rfl⟩
 case round =>
  obtain⟨j,haj,hj,hr,rfl⟩:=hrel
  rcases Nat.lt_or_ge j n with hlt | hge
  ·have q3:decide ((j:Int)<(n:Int))=true:=qT (by omega)
   have jn:(j:Int)<(n:Int):=by omega
   obtain⟨d,hdj⟩:=isBehind hn.out hlt
   have hix2:∀h,(str l)[j]'h=d:=fun h=>str_at l hdj h
   have HD:=Hd hdj
   clear hdj
   rcases hb2:isDig d with _ | _
   ·obtain rfl:j=x:=HE.out 0 x j hr.out (.inr ⟨d,HD.out,hb2⟩)
    have DD:Hid (∀w,Calls prog 54 #[.int .u8 (d.toNat:Int)] w fun e w'=>e=.returned (.bool false)∧w'=w):=Hd fun w=>by have:=digit_ref d w;rwa [hb2] at this
    clear hb2
    obtain⟨y1,hy1⟩:∃y1,y1=j+1:=⟨_,rfl⟩
    have e1:(j:Int)+1=(y1:Int):=by omega
    have HY1:=Hd hy1
    clear hy1
    by_cases hyn:(y1:Int)<(n:Int)
    ·have q4:decide ((y1:Int)<(n:Int))=true:=qT hyn
     have q5:decide (y1<n)=true:=qT (by omega)
     by_cases h46:d=46
     ·have k1:(d ==46)=true:=by simpa using h46
      have k2:((d.toNat:Int) ==46)=true:=by rw[h46];rfl
      have k3:(d.toNat:Int)=46:=by rw[h46];rfl
      have hdot:=Hd (numTo_dot (l:=l) (a:=a) (by rw[hx.out,HD.out,h46]))
      obtain⟨f,hf⟩:=isBehind hn.out (show y1<n by omega)
      have hix3:∀h,(str l)[y1]'h=f:=fun h=>str_at l hf h
      have HF:=Hd hf
      have D46:Hid (∀w,Calls prog 54 #[.int .u8 46] w fun e w'=>e=.returned (.bool false)∧w'=w):=Hd fun w=>by have:=DD.out w;rw[h46] at this;exact this
      clear hf h46
      rcases hb3:isDig f with _ | _
      ·have DF:Hid (∀w,Calls prog 54 #[.int .u8 (f.toNat:Int)] w fun e w'=>e=.returned (.bool false)∧w'=w):=Hd fun w=>by have:=digit_ref f w;rwa [hb3] at this
       obtain rfl:R=j:=by
        have:=hdot.out
        rw[hx.out,←HY1.out,runTo_stop HF.out hb3,if_neg (by omega)] at this
        rw[←hR.out];exact this
       clear hb3
       go_wp2_with (first | (go_at_call 54;((with_reducible refine(D46.out _).mono ?_);rintro e w' ⟨rfl,rfl⟩)) | (go_at_call 54;((with_reducible refine(DD.out _).mono ?_);rintro e w' ⟨rfl,rfl⟩)) | (go_at_call 54;((with_reducible refine(DF.out _).mono ?_);rintro e w' ⟨rfl,rfl⟩)) | (go_at_call 56;((with_reducible refine(SG.out _).mono ?_);rintro e w3 ⟨rfl,hb3⟩;obtain⟨r0,r1,r2,r3,f0,f1,f2,f3⟩:=hrm.out.below hb3 (by simp);have HB3:=Hd hb3;clear hb3)))
       exact bodyPost_ret (v:=.tuple #[.agg #[.int .i64 2,.string T,.int .i64 V,.int .i64 (a:Int)],.bool O]) (by simp[results,Tryz.results28,go_sem,r0,r1,r2,r3]) rfl ⟨rfl,below_four (hb0.out.trans (HB3.out.mono hb0.out.size)) (qL _) _ _ _ _⟩
      ·have DF:Hid (∀w,Calls prog 54 #[.int .u8 (f.toNat:Int)] w fun e w'=>e=.returned (.bool true)∧w'=w):=Hd fun w=>by have:=digit_ref f w;rwa [hb3] at this
       have hRy:Hid (runTo isDig l y1=R):=Hd (by
        have:=hdot.out
        have h2:=runTo_step HF.out hb3
        have h3:=runTo_ge isDig l (y1+1)
        rw[hx.out,←HY1.out,if_pos (by omega)] at this
        rw[←hR.out];exact this.symm)
       clear hb3
       go_wp2_with (first | (go_at_call 54;((with_reducible refine(D46.out _).mono ?_);rintro e w' ⟨rfl,rfl⟩)) | (go_at_call 54;((with_reducible refine(DD.out _).mono ?_);rintro e w' ⟨rfl,rfl⟩)) | (go_at_call 54;((with_reducible refine(DF.out _).mono ?_);rintro e w' ⟨rfl,rfl⟩)))
       go_loop [7] (fun i=>∃k:Nat,y1≤k∧k≤n∧Hid (runTo isDig l k=R)∧i=.int .i64 k) (fun i=>n-litLen i)
       case atStart=>exact⟨y1,qL _,by omega,hRy,rfl⟩
       case round =>
        obtain⟨k,hyk,hk,hrk,rfl⟩:=hrel
        rcases Nat.lt_or_ge k n with hkt | hkg
        ·have q6:decide ((k:Int)<(n:Int))=true:=qT (by omega)
         have kn:(k:Int)<(n:Int):=by omega
         obtain⟨h,hhk⟩:=isBehind hn.out hkt
         have hix4:∀h',(str l)[k]'h'=h:=fun h'=>str_at l hhk h'
         have HH:=Hd hhk
         clear hhk
         rcases hb4:isDig h with _ | _
         ·obtain rfl:k=R:=HE.out 0 R k hrk.out (.inr ⟨h,HH.out,hb4⟩)
          have DH:Hid (∀w,Calls prog 54 #[.int .u8 (h.toNat:Int)] w fun e w'=>e=.returned (.bool false)∧w'=w):=Hd fun w=>by have:=digit_ref h w;rwa [hb4] at this
          clear hb4
          go_wp2_with (first | (go_at_call 54;((with_reducible refine(DH.out _).mono ?_);rintro e w' ⟨rfl,rfl⟩)) | (go_at_call 56;((with_reducible refine(SG.out _).mono ?_);rintro e w3 ⟨rfl,hb3⟩;obtain⟨r0,r1,r2,r3,f0,f1,f2,f3⟩:=hrm.out.below hb3 (by simp);have HB3:=Hd hb3;clear hb3)))
          exact bodyPost_ret (v:=.tuple #[.agg #[.int .i64 2,.string T,.int .i64 V,.int .i64 (a:Int)],.bool O]) (by simp[results,Tryz.results28,go_sem,r0,r1,r2,r3]) rfl ⟨rfl,below_four (hb0.out.trans (HB3.out.mono hb0.out.size)) (qL _) _ _ _ _⟩
         ·have DH:Hid (∀w,Calls prog 54 #[.int .u8 (h.toNat:Int)] w fun e w'=>e=.returned (.bool true)∧w'=w):=Hd fun w=>by have:=digit_ref h w;rwa [hb4] at this
          have HB4:=Hd hb4
          clear hb4
          go_wp2_with ((go_at_call 54;((with_reducible refine(DH.out _).mono ?_);rintro e w' ⟨rfl,rfl⟩)))
          exact⟨⟨k+1,by omega,by omega,Hd (run_next HH.out hrk.out HB4.out),rfl⟩,by simp[litLen];omega⟩
        ·have q6:decide ((k:Int)<(n:Int))=false:=qF (by omega)
         obtain rfl:k=R:=HE.out 0 R k hrk.out (.inl hkg)
         go_wp2_with (first | (go_at_call 56;((with_reducible refine(SG.out _).mono ?_);rintro e w3 ⟨rfl,hb3⟩;obtain⟨r0,r1,r2,r3,f0,f1,f2,f3⟩:=hrm.out.below hb3 (by simp);have HB3:=Hd hb3;clear hb3)))
         exact bodyPost_ret (v:=.tuple #[.agg #[.int .i64 2,.string T,.int .i64 V,.int .i64 (a:Int)],.bool O]) (by simp[results,Tryz.results28,go_sem,r0,r1,r2,r3]) rfl ⟨rfl,below_four (hb0.out.trans (HB3.out.mono hb0.out.size)) (qL _) _ _ _ _⟩
     ·obtain⟨k1,k4,k3,k2,k5⟩:=byte_ne h46 46 rfl
      obtain rfl:R=j:=by rw[←hR.out,numTo_end (by rw[hx.out,HD.out];simpa using h46),hx.out]
      clear h46
      go_wp2_with (first | (go_at_call 54;((with_reducible refine(DD.out _).mono ?_);rintro e w' ⟨rfl,rfl⟩)) | (go_at_call 56;((with_reducible refine(SG.out _).mono ?_);rintro e w3 ⟨rfl,hb3⟩;obtain⟨r0,r1,r2,r3,f0,f1,f2,f3⟩:=hrm.out.below hb3 (by simp);have HB3:=Hd hb3;clear hb3)))
      exact bodyPost_ret (v:=.tuple #[.agg #[.int .i64 2,.string T,.int .i64 V,.int .i64 (a:Int)],.bool O]) (by simp[results,Tryz.results28,go_sem,r0,r1,r2,r3]) rfl ⟨rfl,below_four (hb0.out.trans (HB3.out.mono hb0.out.size)) (qL _) _ _ _ _⟩
    ·have q4:decide ((y1:Int)<(n:Int))=false:=qF hyn
     have q5:decide (y1<n)=false:=qF (by omega)
     obtain rfl:R=j:=by
      by_cases h46:d=46
      ·have hdot:=numTo_dot (l:=l) (a:=a) (by rw[hx.out,HD.out,h46])
       rw[hx.out,←HY1.out,runTo_end (by rw[hn.out];omega),if_neg (by omega)] at hdot
       rw[←hR.out];exact hdot
      ·rw[←hR.out,numTo_end (by rw[hx.out,HD.out];simpa using h46),hx.out]
     go_wp2_with (first | (go_at_call 54;((with_reducible refine(DD.out _).mono ?_);rintro e w' ⟨rfl,rfl⟩)) | (go_at_call 56;((with_reducible refine(SG.out _).mono ?_);rintro e w3 ⟨rfl,hb3⟩;obtain⟨r0,r1,r2,r3,f0,f1,f2,f3⟩:=hrm.out.below hb3 (by simp);have HB3:=Hd hb3;clear hb3)))
     exact bodyPost_ret (v:=.tuple #[.agg #[.int .i64 2,.string T,.int .i64 V,.int .i64 (a:Int)],.bool O]) (by simp[results,Tryz.results28,go_sem,r0,r1,r2,r3]) rfl ⟨rfl,below_four (hb0.out.trans (HB3.out.mono hb0.out.size)) (qL _) _ _ _ _⟩
   ·have DD:Hid (∀w,Calls prog 54 #[.int .u8 (d.toNat:Int)] w fun e w'=>e=.returned (.bool true)∧w'=w):=Hd fun w=>by have:=digit_ref d w;rwa [hb2] at this
    have HB2:=Hd hb2
    clear hb2
    go_wp2_with ((go_at_call 54;((with_reducible refine(DD.out _).mono ?_);rintro e w' ⟨rfl,rfl⟩)))
    exact⟨⟨j+1,by omega,by omega,Hd (run_next HD.out hr.out HB2.out),rfl⟩,by simp[litLen];omega⟩
  ·have q3:decide ((j:Int)<(n:Int))=false:=qF (by omega)
   obtain rfl:j=x:=HE.out 0 x j hr.out (.inl hge)
   obtain⟨y1,hy1⟩:∃y1,y1=j+1:=⟨_,rfl⟩
   have e1:(j:Int)+1=(y1:Int):=by omega
   have q4:decide ((y1:Int)<(n:Int))=false:=qF (by omega)
   have q5:decide (y1<n)=false:=qF (by omega)
   obtain rfl:R=j:=by rw[←hR.out,numTo_end (by rw[hx.out,List.getElem?_eq_none (by rw[hn.out];exact hge)];simp),hx.out]
   clear hy1
   go_wp2_with (first | (go_at_call 56;((with_reducible refine(SG.out _).mono ?_);rintro e w3 ⟨rfl,hb3⟩;obtain⟨r0,r1,r2,r3,f0,f1,f2,f3⟩:=hrm.out.below hb3 (by simp);have HB3:=Hd hb3;clear hb3)))
   exact bodyPost_ret (v:=.tuple #[.agg #[.int .i64 2,.string T,.int .i64 V,.int .i64 (a:Int)],.bool O]) (by simp[results,Tryz.results28,go_sem,r0,r1,r2,r3]) rfl ⟨rfl,below_four (hb0.out.trans (HB3.out.mono hb0.out.size)) (qL _) _ _ _ _⟩
def RefSigned:Prop:=∀t:List UInt8,t.length≤30000→t.head?≠some 45→∀W,Calls prog 56 #[.string (str t)] W fun e w'=>e=.returned (.tuple #[.int .i64 ((parseL t).1:Int),.bool (parseL t).2])∧Below W.heap.size W w'
theorem ref_one (SG:RefSigned):RefOne:=fun l a ha hl W=>by
 obtain⟨c,hc⟩:∃c,l[a]?=some c:=⟨l[a],List.getElem?_eq_getElem ha⟩
 have hix:∀h,(str l)[a]'h=c:=fun h=>str_at l hc h
 have ho:oneL (l.drop a)=none↔(tokAt l a).kind=0:=(tokAt_kind l a).symm
 cases h1:isLetter c with
 | true =>
  have ht:=tokAt_name hc h1
  have hN:=nameN_le (l.drop a)
  have hdl:(l.drop a).length=l.length-a:=List.length_drop
  have hx:runTo isName l a=a+nameN (l.drop a):=runTo_name l a
  have e:(str l).extract a (runTo isName l a)=str ((l.drop a).take (nameN (l.drop a))):=by rw[slice_str,hx];congr 2;omega
  have C:∀B,B=decide ((nameN (l.drop a):Int)≤16)→Calls prog 28 #[.string (str l),.int .i64 (a:Int)] W fun e w'=>OneRet (if wordL ((l.drop a).take (nameN (l.drop a)))=true then 3 else 1) 0 a (str ((l.drop a).take (nameN (l.drop a)))) B W e w':=fun B hB =>
   one_name l _ (Hd rfl) (by omega) (str_size l) a (by omega) c hix (Hd h1) _ (Hd rfl) (by have:=runTo_ge isName l a;omega) (by have:=runTo_le isName (ql ha);omega) _ e _ (Hd rfl) (nameN (l.drop a)) (by omega) _ _ (Hd rfl) (Hd rfl) B (Hd hB) W
  constructor
  ·intro hne
   have h16:nameN (l.drop a)≤16:=Nat.le_of_not_lt fun hh=>hne (ho.2 (by rw[ht,if_neg (by omega)]))
   rw[ht,if_pos h16]
   have:=C true (qT (by omega)).symm
   split
   ·rw[if_pos (by assumption)] at this;exact this
   ·rw[if_neg (by assumption)] at this;exact this
  ·intro hnone
   have h16:¬nameN (l.drop a)≤16:=fun hh=>by
    have:=ho.1 hnone
    rw[ht,if_pos hh] at this
    simp only at this
    split at this <;> omega
   exact(C false (qF (by omega)).symm).mono fun e w' h=>⟨_,_,_,_,h⟩
 | false =>
  cases h2:isDig c with
  | true =>
   have ht:=tokAt_num hc h1 h2
   have hdl:(l.drop a).length=l.length-a:=List.length_drop
   have hN:=numN_le (l.drop a)
   have e:(str l).extract a (numTo l a)=str ((l.drop a).take (numN (l.drop a))):=by rw[slice_str];congr 2;unfold numTo;omega
   have hlen:((l.drop a).take (numN (l.drop a))).length≤30000:=by rw[List.length_take];omega
   have hhd:((l.drop a).take (numN (l.drop a))).head?≠some 45:=by
    rw[drop_cons hc]
    have hp:=numN_pos (l:=l.drop (a+1)) h2
    cases hk:numN (c :: l.drop (a+1)) with
    | zero=>omega
    | succ k =>
     rw[List.take_succ_cons,List.head?_cons]
     intro hh
     cases hh
     revert h2
     decide
   have C:=one_num l _ (Hd rfl) (by omega) (str_size l) a (by omega) c hix (Hd h1) (Hd h2) _ (Hd rfl) _ (Hd rfl) (by unfold numTo;omega) (by unfold numTo;omega) _ e _ _ (Hd fun w=>SG _ hlen hhd w) W
   constructor
   ·intro hne
    have hp:(parseL ((l.drop a).take (numN (l.drop a)))).2=true:=by
     cases hq:(parseL ((l.drop a).take (numN (l.drop a)))).2 with
     | true=>rfl
     | false=>exact absurd (ho.2 (by rw[ht,if_neg (by rw[hq];simp)])) hne
    rw[ht,if_pos hp]
    rw[hp] at C
    exact C
   ·intro hnone
    have hp:(parseL ((l.drop a).take (numN (l.drop a)))).2=false:=by
     cases hq:(parseL ((l.drop a).take (numN (l.drop a)))).2 with
     | false=>rfl
     | true =>
      have:=ho.1 hnone
      rw[ht,if_pos hq] at this
      simp at this
    rw[hp] at C
    exact C.mono fun e w' h=>⟨_,_,_,_,h⟩
  | false =>
   have ht:=tokAt_sign hc h1 h2
   have C:=one_sign l _ (Hd rfl) (by omega) (str_size l) a (by omega) c hix (Hd h1) (Hd h2) _ (Hd rfl) W
   have hs:oneL (l.drop a)=(signOf (l.drop a)).map fun s=>(4,s.length,0):=by
    unfold oneL
    rw[drop_cons hc]
    simp only[h1,h2,Bool.false_eq_true,if_false]
   constructor
   ·intro hne
    cases hq:signOf (l.drop a) with
    | none=>exact absurd (by rw[hs,hq];rfl) hne
    | some s =>
     rw[hq] at C ht
     have htx:(l.drop a).take s.length=s:=prefix_take (signOf_mem hq).2
     have ht2:tokAt l a=⟨4,s,0,a⟩:=by rw[ht];show Tok.mk 4 ((l.drop a).take s.length) 0 a=_;rw[htx]
     rw[ht2]
     exact C.mono fun e w' h=>by
      rcases h with ⟨s',h3,h4⟩ | ⟨h3,_⟩
      ·cases h3;exact h4
      ·cases h3
   ·intro hnone
    cases hq:signOf (l.drop a) with
    | some s=>rw[hs,hq] at hnone;cases hnone
    | none =>
     rw[hq] at C
     exact C.mono fun e w' h=>by
      rcases h with ⟨s',h3,_⟩ | ⟨_,h4⟩
      ·cases h3
      ·exact⟨_,_,_,_,h4⟩
end Go.Proofs.YtpfmlfcaadnnpaaGreatDoor.Lx
namespace Go.Proofs.YtpfmlfcaadnnpaaGreatDoor.Lx
set_option maxRecDepth 100000
def step (s:Nat×Nat×Nat) (c:UInt8):Nat×Nat×Nat:=if c=46 then(s.1,s.2.1,s.2.2+1) else if s.2.2=0 then(s.1+1,s.2.1,s.2.2) else(s.1,s.2.1+1,s.2.2)
def st (l:List UInt8):Nat×Nat×Nat:=l.foldl step (0,0,0)
def okay (c:UInt8):Bool:=c ==46||isDig c
theorem st_snoc (l:List UInt8) (c:UInt8):st (l++[c])=step (st l) c:=by unfold st;rw[List.foldl_append];rfl
theorem st_le (l:List UInt8):(st l).1+(st l).2.1+(st l).2.2=l.length:=by
 suffices h:∀(l:List UInt8) (s:Nat×Nat×Nat),(l.foldl step s).1+(l.foldl step s).2.1+(l.foldl step s).2.2=s.1+s.2.1+s.2.2+l.length by
  have:=h l (0,0,0)
  simp only at this
  unfold st
  omega
 intro l
 induction l with
 | nil=>intro s;rfl
 | cons c l ih =>
  intro s
  rw[List.foldl_cons,ih,List.length_cons]
  unfold step
  split
  ·show s.1+s.2.1+(s.2.2+1)+l.length=_;omega
  ·split
   ·show s.1+1+s.2.1+s.2.2+l.length=_;omega
   ·show s.1+(s.2.1+1)+s.2.2+l.length=_;omega
theorem st_plain (l:List UInt8) (h:46 ∉ l) (a b:Nat):l.foldl step (a,b,0)=(a+l.length,b,0):=by
 induction l generalizing a with
 | nil=>rfl
 | cons c l ih =>
  simp only[List.mem_cons,not_or] at h
  rw[List.foldl_cons,show step (a,b,0) c=(a+1,b,0) by unfold step;rw[if_neg (Ne.symm h.1),if_pos rfl],ih h.2,List.length_cons]
  simp only[Prod.mk.injEq,and_true]
  omega
theorem st_behind (l:List UInt8) (a b d:Nat) (hd:1≤d) (h:(l.foldl step (a,b,d)).2.2=d):46 ∉ l∧l.foldl step (a,b,d)=(a,b+l.length,d):=by
 have mono:∀(l:List UInt8) (s:Nat×Nat×Nat),s.2.2≤(l.foldl step s).2.2:=by
  intro l
  induction l with
  | nil=>intro s;exact qL _
  | cons c l ih =>
   intro s
   rw[List.foldl_cons]
   refine Nat.le_trans ?_ (ih _)
   unfold step
   split
   ·exact Nat.le_succ _
   ·split <;> exact qL _
 induction l generalizing b with
 | nil=>exact⟨by simp,rfl⟩
 | cons c l ih =>
  rw[List.foldl_cons] at h ⊢
  by_cases hc:c=46
  ·subst hc
   have h1:=mono l (step (a,b,d) 46)
   have h2:(step (a,b,d) 46).2.2=d+1:=rfl
   omega
  ·have e:step (a,b,d) c=(a,b+1,d):=by unfold step;rw[if_neg hc,if_neg (by show ¬d=0;omega)]
   rw[e] at h ⊢
   obtain⟨h1,h2⟩:=ih (b+1) h
   refine⟨by simp only[List.mem_cons,not_or];exact⟨Ne.symm hc,h1⟩,?_⟩
   rw[h2,List.length_cons]
   simp only[Prod.mk.injEq,true_and,and_true]
   omega
def litR (l:List UInt8):Bool :=
 l.all okay&&(decide (1≤(st l).1)&&(decide ((st l).1≤10)&&(decide ((st l).2.2≤1)&&((!(decide ((st l).2.2=1))||(decide (1≤(st l).2.1)&&decide ((st l).2.1≤40)))&&(decide ((st l).1=1)||!(l.head? ==some 48))))))
theorem okay_dig {l:List UInt8} (h:l.all okay=true) (hp:46 ∉ l):l.all isDig=true:=List.all_eq_true.2 fun x hx=>by
 have h1:=List.all_eq_true.1 h x hx
 unfold okay at h1
 rw[Bool.or_eq_true] at h1
 rcases h1 with h1 | h1
 ·have:x=46:=by simpa using h1
  subst this
  exact absurd hx hp
 ·exact h1
end Go.Proofs.YtpfmlfcaadnnpaaGreatDoor.Lx
