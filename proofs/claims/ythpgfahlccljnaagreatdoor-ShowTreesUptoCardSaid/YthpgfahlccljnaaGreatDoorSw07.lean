import Derived.Test.YthpgfahlccljnaaGreatDoorSw00
import Derived.Below
import Derived.ChangeSame
set_option maxHeartbeats 16000000
set_option maxRecDepth 100000
namespace Go.Proofs.YthpgfahlccljnaaGreatDoor
def isDig (c:UInt8):Bool:=decide (48≤c.toNat)&&decide (c.toNat≤57)
theorem isDig_iff {c:UInt8}:isDig c=true↔48≤c.toNat∧c.toNat≤57:=by unfold isDig;simp
def digitsL (l:List UInt8) (most:Nat):Bool:=decide (1≤l.length)&&(decide (l.length≤most)&&l.all isDig)
def ahead (l:List UInt8):List UInt8:=l.takeWhile (· !=46)
def behind (l:List UInt8):List UInt8:=(l.dropWhile (· !=46)).drop 1
def pointed (l:List UInt8):Bool:=l.contains 46
theorem ahead_point (a b:List UInt8) (h:46 ∉ a):ahead (a++46 :: b)=a:=by
 unfold ahead
 rw[List.takeWhile_append_of_pos (by intro x hx;simp;rintro rfl;exact h hx)]
 simp
theorem behind_point (a b:List UInt8) (h:46 ∉ a):behind (a++46 :: b)=b:=by
 unfold behind
 rw[List.dropWhile_append_of_pos (by intro x hx;simp;rintro rfl;exact h hx)]
 simp
theorem ahead_none (a:List UInt8) (h:46 ∉ a):ahead a=a:=by
 unfold ahead
 have:=List.takeWhile_append_of_pos (p:=(· !=46)) (l₁:=a) (l₂:=[]) (by intro x hx;simp;rintro rfl;exact h hx)
 simpa using this
theorem behind_none (a:List UInt8) (h:46 ∉ a):behind a=[]:=by
 unfold behind
 have:=List.dropWhile_append_of_pos (p:=(· !=46)) (l₁:=a) (l₂:=[]) (by intro x hx;simp;rintro rfl;exact h hx)
 simp only[List.append_nil] at this
 rw[this]
 rfl
theorem part_cases (l:List UInt8):(46 ∉ l)∨∃a b,l=a++46 :: b∧46 ∉ a:=by
 induction l with
 | nil=>left;simp
 | cons c l ih =>
  by_cases hc:c=46
  ·right;exact⟨[],l,by rw[hc];rfl,by simp⟩
  ·rcases ih with h | ⟨a,b,rfl,h⟩
   ·left;simp[h];exact fun e=>hc e.symm
   ·right;exact⟨c :: a,b,rfl,by simp[h];exact fun e=>hc e.symm⟩
def litL (l:List UInt8):Bool:=digitsL (ahead l) 10&&(!(decide (1<(ahead l).length)&&(ahead l).head? ==some 48)&&(!pointed l||digitsL (behind l) 40))
def numL:List UInt8→Nat
 | []=>0
 | c :: l=>(c.toNat-48)*10 ^ l.length+numL l
theorem numL_snoc (l:List UInt8) (c:UInt8):numL (l++[c])=numL l*10+(c.toNat-48):=by
 induction l with
 | nil=>simp[numL]
 | cons d l ih=>simp only[List.cons_append,numL,ih,List.length_append,List.length_singleton,Nat.pow_succ,Nat.add_mul,Nat.mul_assoc];omega
theorem numL_lt (l:List UInt8) (h:l.all isDig=true):numL l<10 ^ l.length:=by
 induction l with
 | nil=>simp[numL]
 | cons d l ih =>
  simp only[List.all_cons,Bool.and_eq_true] at h
  have h1:=isDig_iff.1 h.1
  have h2:=ih h.2
  have:(d.toNat-48)*10 ^ l.length≤9*10 ^ l.length:=Nat.mul_le_mul_right _ (by omega)
  simp only[numL,List.length_cons,Nat.pow_succ]
  omega
def bitsL (l:List UInt8):Nat:=numL l*4294967296 / 10 ^ l.length
def sizeL (l:List UInt8):Nat:=numL (ahead l)*4294967296+bitsL (behind l)
def readL (l:List UInt8):Nat×Bool:=if litL l∧numL (ahead l)≤2147483648 then(sizeL l,decide (sizeL l≤9223372036854775808)) else(0,false)
def cry:List UInt8→Nat
 | []=>0
 | c :: l=>(2*(c.toNat-48)+cry l) / 10
def dbl:List UInt8→List UInt8
 | []=>[]
 | c :: l=>dg ((2*(c.toNat-48)+cry l) % 10) :: dbl l
theorem dbl_length (l:List UInt8):(dbl l).length=l.length:=by induction l with
 | nil=>rfl
 | cons c l ih=>simp[dbl,ih]
theorem dg_val {n:Nat} (h:n<10):(dg n).toNat=48+n:=by unfold dg;rw[UInt8.toNat_ofNat_of_lt' (by show 48+n<256;omega)]
theorem dg_dig {n:Nat} (h:n<10):isDig (dg n)=true:=isDig_iff.2 (by rw[dg_val h];omega)
theorem dbl_dig (l:List UInt8):(dbl l).all isDig=true:=by
 induction l with
 | nil=>rfl
 | cons d l ih=>simp only[dbl,List.all_cons,ih,Bool.and_true];exact dg_dig (by omega)
theorem dbl_num (l:List UInt8):numL (dbl l)+cry l*10 ^ l.length=2*numL l:=by
 induction l with
 | nil=>rfl
 | cons d l ih =>
  simp only[dbl,cry,numL,dbl_length,List.length_cons,Nat.pow_succ]
  rw[dg_val (Nat.mod_lt _ (by omega)),Nat.add_sub_cancel_left]
  generalize 10 ^ l.length=p at *
  have hd:=Nat.div_add_mod (2*(d.toNat-48)+cry l) 10
  generalize (2*(d.toNat-48)+cry l) % 10=r at *
  generalize (2*(d.toNat-48)+cry l) / 10=k at *
  have e:(10*k+r)*p=(2*(d.toNat-48)+cry l)*p:=by rw[hd]
  rw[Nat.add_mul,Nat.add_mul,Nat.mul_assoc] at e
  have e2:k*(p*10)=10*(k*p):=by rw[←Nat.mul_assoc,Nat.mul_comm]
  rw[e2,Nat.mul_add]
  rw[Nat.mul_assoc] at e
  omega
def DblAt (l0:List UInt8) (k:Nat) (l:List UInt8) (B:Nat):Prop:=l.all isDig=true∧l.length=l0.length∧numL l+B*10 ^ l0.length=numL l0*2 ^ k
theorem dblAt_zero (l:List UInt8) (h:l.all isDig=true):DblAt l 0 l 0:=⟨h,rfl,by simp⟩
theorem dblAt_next {l0 l:List UInt8} {k B:Nat} (h:DblAt l0 k l B):DblAt l0 (k+1) (dbl l) (2*B+cry l):=by
 obtain⟨h1,h2,h3⟩:=h
 refine⟨dbl_dig l,(dbl_length l).trans h2,?_⟩
 have:=dbl_num l
 rw[h2] at this
 rw[Nat.add_mul,Nat.pow_succ,←Nat.mul_assoc,←h3,Nat.mul_assoc 2]
 omega
theorem dblAt_end {l0 l:List UInt8} {B:Nat} (h:DblAt l0 32 l B):B=bitsL l0:=by
 obtain⟨h1,h2,h3⟩:=h
 have h4:=numL_lt l h1
 rw[h2] at h4
 unfold bitsL
 rw[show(4294967296:Nat)=2 ^ 32 by decide,←h3,Nat.add_mul_div_right _ _ (Nat.pow_pos (by omega)),Nat.div_eq_of_lt h4,Nat.zero_add]
theorem dblAt_lt {l0 l:List UInt8} {k B:Nat} (h:DblAt l0 k l B) (h0:l0.all isDig=true):B<2 ^ k:=by
 obtain⟨h1,h2,h3⟩:=h
 have h4:=numL_lt l0 h0
 have h5:B*10 ^ l0.length<2 ^ k*10 ^ l0.length:=by
  have:numL l0*2 ^ k<10 ^ l0.length*2 ^ k:=Nat.mul_lt_mul_of_pos_right h4 (Nat.pow_pos (by omega))
  rw[Nat.mul_comm (2 ^ k)]
  omega
 exact Nat.lt_of_mul_lt_mul_right h5
end Go.Proofs.YthpgfahlccljnaaGreatDoor
namespace Go.Proofs.YthpgfahlccljnaaGreatDoor
open Go.RowKit Go.WideShapes Go.ChangeShapes
section
variable {H:Type} {enc:TypeId×Value→H} {P:Program}
theorem post_by_below {f:Func} {s:ChangeSpec} {apart fresh handsOn again:Bool} {W W':World} {args:Array Value} {v:Value} {ds gs:List (DataW H)} {before pa pv:List MemPlace}
  (hW:DataW.Whole enc P f.params.toList s.vars apart W args.toList ds gs before)
  (hres:∀(b:Nat) (sp:Nat→Bool) (hd:Bool),DataW.TrodAll enc P W' b sp hd f.resultTypes.toList (v.resultList f.resultTypes.size) (s.fn H (ds++gs)).results [])
  (hargs:∀sp:Nat→Bool,(∀p ∈ before,sp p.block=true)→DataW.TrodAll enc P W' 0 sp true f.params.toList args.toList (s.fn H (ds++gs)).args pa)
  (hvars:∀sp:Nat→Bool,(∀p ∈ before,sp p.block=true)→DataW.TrodVars enc P W' sp s.vars (s.fn H (ds++gs)).vars pv)
  (hps:before=pa++pv) (hb:Below W.heap.size W W')
  (hok:∀(j:Nat) (t:TypeId) (r:Value),f.resultTypes[j]?=some t→(v.resultList f.resultTypes.size)[j]?=some r→Value.okWide P W' .any 0 t r) :
  s.post enc P f apart fresh handsOn again W args v W':=by
 have blocks:∀p ∈ before,p.block<W.heap.size:=fun p hp=>hW.lt p hp
 have old:∀p ∈ before,(fun b=>decide (b<W.heap.size)) p.block=true:=fun p hp=>qT (blocks p hp)
 have both:∀p,p ∈ before→p ∈ pa∨p ∈ pv:=fun p hp=>by rw[hps] at hp;exact List.mem_append.1 hp
 have frame:W.keptBut W' (fun p=>p ∈ before∧(p ∈ ([]:List MemPlace)∨p ∈ pa∨p ∈ pv)) :=
  World.keptBut_mono (fun p hp=>⟨hp,.inr (both p hp)⟩) (hb.frame (· ∈ before))
 have whole:DataW.Whole enc P f.params.toList s.vars apart W args.toList ds gs before:=hW
 obtain⟨_,_,_,_,_,cold,once⟩:=hW
 have cold':∀b off,MemPlace.cell b off ∈ before→W'.frozen? ⟨b,off,none⟩=false:=fun b off hp=>by
  rw[hb.frozen (p:=⟨b,off,none⟩) (blocks _ hp)]
  exact cold b off hp
 have behind:DataW.Whole enc P (f.resultTypes.toList++f.params.toList) s.vars apart W' (v.resultList f.resultTypes.size++args.toList)
   ((s.fn H (ds++gs)).results++(s.fn H (ds++gs)).args) (s.fn H (ds++gs)).vars (pa++pv):=by
  have h:=trodAll_append (hargs (fun _=>true) fun _ _=>rfl) (hres 0 (fun _=>true) true)
  exact⟨pa,pv,h,hvars _ fun _ _=>rfl,rfl,fun b off hp=>cold' b off (by rw[hps];exact hp),fun ha=>by rw[←hps];exact once ha⟩
 exact⟨ds,gs,before,[],pa,pv,whole,hres _ _ _,hargs _ old,hvars _ old,frame,fun _=>⟨hok,_,_,_,behind,fun p hp _=>by rw[hps];exact hp⟩⟩
end
end Go.Proofs.YthpgfahlccljnaaGreatDoor
