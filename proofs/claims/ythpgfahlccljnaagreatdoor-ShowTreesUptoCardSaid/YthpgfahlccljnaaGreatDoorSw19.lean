import Derived.Test.YthpgfahlccljnaaGreatDoorSw18
set_option maxHeartbeats 16000000
set_option maxRecDepth 100000
set_option linter.unusedVariables false
open Go.Proofs.Tryz(prog)
namespace Go.Proofs.YthpgfahlccljnaaGreatDoor
open Go.RowKit
def DcI (WB W:World) (b ib:Nat) (s:Value) (cs:Array Value) (S:ByteArray) (Y:World):Prop:=Wd WB.heap.size b s S Y∧(Y.heap[ib]?=some (.cells cs 33 (0,0))∧ib≠b)∧Below WB.heap.size WB Y∧Below WB.heap.size W Y∧Lib.OthersKept 5 (some b) W Y
theorem DcI.below {WB W Y Z:World} {b ib:Nat} {s:Value} {cs:Array Value} {S:ByteArray} (h:DcI WB W b ib s cs S Y) (hb:Below Y.heap.size Y Z):DcI WB W b ib s cs S Z:=by
 obtain⟨h1,h2,h3,h4,h5⟩:=h
 have k:=h3.size
 exact⟨h1.below hb,⟨(hb.block ib (wlt_of_heap h2.1)).trans h2.1,h2.2⟩,h3.trans (hb.mono k),h4.trans (hb.mono k),h5.trans (others_below hb)⟩
theorem DcI.post {WB W Y Z:World} {b ib:Nat} {s:Value} {cs:Array Value} {S S':ByteArray} {r:Ending} (h:DcI WB W b ib s cs S Y) (hp:WrPost WB.heap.size b s S' Y r Z):DcI WB W b ib s cs S' Z:=by
 obtain⟨_,h2,h3,h4,h5⟩:=h
 obtain⟨g1,g2,g3⟩:=hp.2.out
 exact⟨g1,⟨g3 ib _ h2.1 (by intro e;exact h2.2 (qI e)) (by intro c fz e;injection e with e3 e4;revert e4;decide),h2.2⟩,h3.trans g2,h4.trans g2,h5.trans g3⟩
theorem DcI.cell {WB W Y:World} {b ib:Nat} {s:Value} {cs:Array Value} {S:ByteArray} (h:DcI WB W b ib s cs S Y) {i:Nat} {v:Value} (hv:cs[i]?=some v):Y.cell? ⟨ib,i,none⟩=some v:=by simp[World.cell?,h.2.1.1,hv]
theorem DcI.s {WB W Y:World} {b ib:Nat} {s:Value} {cs:Array Value} {S:ByteArray} (h:DcI WB W b ib s cs S Y):Y.cell? ⟨b,2,none⟩=some s:=h.1.cells.2.1
theorem DcI.line {WB W Y Z:World} {b ib n:Nat} {s:Value} {cs:Array Value} {S S':ByteArray} {ws:List ByteArray} (hn:ws.length=n) (nl:(n:Int)≤1000) (h:DcI WB W b ib s cs S Y) (hb:Below Y.heap.size Y Z) (hS:catB S ws++⟨#[10]⟩=S') (hM:S'.size≤90000000000000) :
  Calls prog 39 #[.pointer (some ⟨b,0,none⟩),.slice (some ⟨Z.heap.size,0,none⟩) n n] (Z.alloc (.cells ⟨ws.map Value.string⟩ 9)) fun r V=>r=.returned (.tuple #[])∧Hid (DcI WB W b ib s cs S' V):=by
 subst hS
 have hZ:=h.below hb
 rw[ByteArray.size_append] at hM
 exact(lineW WB.heap.size b n s S ws hn nl Z hZ.1 (by omega) (by have:=hZ.2.2.1.size;omega)).mono fun r V hp=>⟨hp.1,Hd (hZ.post hp)⟩
theorem decl_any (WB:World) (b:Nat) (o:Option Addr) (n cap:Nat) (T:Int→ByteArray) (ne:Nat) (TX:Hid (∀e:Nat,e<ne→∀Y,Below WB.heap.size WB Y→Calls prog 18 #[.slice o n cap,.int .i64 (e:Int)] Y fun r Z=>r=.returned (.string (T (e:Int)))∧Below Y.heap.size Y Z))
  (d:De) (hd:Hid (mayD ne d=true∧1≤d.kind∧d.kind≤3∧(∀y ∈ d.items,1≤y.kind∧y.kind≤8)∧d.items.length≤1000∧d.params.length≤100000)) (op oi:Option Addr) (cp ci bp fp bi fi:Nat) (hop:Hid (0<d.params.length→op=some ⟨bp,fp,none⟩)) (hoi:Hid (0<d.items.length→oi=some ⟨bi,fi,none⟩))
  (hpx:Hid (∀i,i<d.params.length→∀p,d.params[i]?=some p→PaAt WB bp (fp+i*2) p)) (hx:Hid (∀i,i<d.items.length→∀y,d.items[i]?=some y→ItAt WB bi (fi+i*9) y))
  (S0:ByteArray) (W:World) (hw:Hid (Wd WB.heap.size b (.slice o n cap) S0 W)) (hbl:Hid (Below WB.heap.size WB W)) (hM:Hid ((declB T S0 d).size≤10000000000000)) :
  Calls prog 19 #[.pointer (some ⟨b,0,none⟩),.agg #[.int .i64 d.kind,.string d.name,.slice op d.params.length cp,.slice oi d.items.length ci,.int .i64 d.type,.int .i64 d.e,.int .i64 d.pos]] W fun r Y=>WrPost WB.heap.size b (.slice o n cap) (declB T S0 d) W r Y:=by
 have hbs:=hbl.out.size
 have hbb:=hw.out.cells.1
 obtain⟨d1,d2,d3,d4,d5,d6⟩:=hd.out
 obtain⟨pb,hpb⟩:∃pb,pb=parB d:=⟨_,rfl⟩
 have hge:=declB_ge T S0 d
 have HPA:Hid (∀Y,Below WB.heap.size WB Y→Calls prog 40 #[.slice op d.params.length cp] Y fun r Z=>r=.returned (.string pb)∧Hid (Below Y.heap.size Y Z)):=Hd fun Y hY=>by
  rw[hpb]
  exact(params_any d.params d.params.length (Hd rfl) (by omega) op cp bp fp Y hop (Hd fun i hi p hp=>by obtain⟨a,b,c,d⟩:=hpx.out i hi p hp;exact⟨cell_below hY a,cell_below hY b,c,d⟩) (Hd (by have h1:=hge.2.1;have h2:=hM.out;unfold parB at h1;omega))).mono fun r Z h=>⟨h.1,Hd h.2⟩
 have HTY:Hid (∀Y,Calls prog 41 #[.int .i64 d.type] Y fun r Z=>r=.returned (.string (typeB d.type))∧Hid (Below Y.heap.size Y Z)):=Hd fun Y=>(typed_any d.type Y).mono fun r Z h=>⟨h.1,Hd h.2⟩
 have HIT:Hid (∀S Y,Wd WB.heap.size b (.slice o n cap) S Y→Below WB.heap.size WB Y→(itsB T S d.items d.items.length).size≤90000000000000→Calls prog 42 #[.pointer (some ⟨b,0,none⟩),.slice oi d.items.length ci] Y fun r Z=>WrPost WB.heap.size b (.slice o n cap) (itsB T S d.items d.items.length) Y r Z):=Hd fun S Y h1 h2 h3 =>
  items_any WB b o n cap T ne TX d.items d.items.length (Hd rfl) (by omega) oi ci bi fi hoi hx (Hd fun y hy=>⟨by unfold mayD at d1;rw[Bool.and_eq_true,List.all_eq_true] at d1;exact d1.2 y hy,d4 y hy⟩) S Y (Hd h1) (Hd h2) (Hd h3)
 have HTE:Hid (hasVal d.kind=true→∃ea:Nat,d.e=(ea:Int)∧∀Y,Below WB.heap.size WB Y→Calls prog 18 #[.slice o n cap,.int .i64 (ea:Int)] Y fun r Z=>r=.returned (.string (T d.e))∧Hid (Below Y.heap.size Y Z)):=Hd fun hv=>by
  unfold mayD standsE at d1
  rw[hv,Bool.and_eq_true] at d1
  have d0:0≤d.e∧d.e<(ne:Int):=by simpa using d1.1
  refine⟨d.e.toNat,by omega,fun Y hY=>?_⟩
  have h:=TX.out d.e.toNat (by omega) Y hY
  rw[Int.toNat_of_nonneg d0.1] at h
  rw[Int.toNat_of_nonneg d0.1]
  exact h.mono fun r Z h=>⟨h.1,Hd h.2⟩
 obtain⟨ib,hib⟩:∃ib,ib=W.heap.size:=⟨_,rfl⟩
 obtain⟨np,hnp⟩:∃np,np=d.params.length:=⟨_,rfl⟩
 obtain⟨ni,hni⟩:∃ni,ni=d.items.length:=⟨_,rfl⟩
 obtain⟨tb,htb⟩:∃tb,tb=typeB d.type:=⟨_,rfl⟩
 obtain⟨te,hte⟩:∃te,te=T d.e:=⟨_,rfl⟩
 obtain⟨its,hits⟩:∃its,its=d.items:=⟨_,rfl⟩
 have HDB:Hid (declB T S0 d=if d.kind=1 then(((((((S0++⟨#[102,117,110,32]⟩)++d.name)++pb)++⟨#[58,32]⟩)++tb)++⟨#[32,61,32]⟩)++te)++⟨#[59,10]⟩
   else(if d.kind=2 then((itsB T (((((((S0++⟨#[110,111,100,101,32]⟩)++d.name)++pb)++⟨#[58,32]⟩)++tb)++⟨#[32,123,10]⟩)) its ni++⟨#[32,32,114,101,116,117,114,110,32]⟩)++te)++⟨#[59,10]⟩ else itsB T ((((S0++⟨#[104,121,98,114,105,100,32]⟩)++d.name)++pb)++⟨#[32,123,10]⟩) its ni)++⟨#[125,10]⟩):=Hd (by
  unfold declB headB
  rw[hpb,htb,hte,hits,hni]
  by_cases k1:d.kind=1
  ·rw[if_pos k1,if_pos k1]
  ·rw[if_neg k1,if_neg k1]
   by_cases k2:d.kind=2
   ·rw[if_pos k2,if_pos k2,if_pos k2]
   ·rw[if_neg k2,if_neg k2,if_neg k2])
 obtain⟨R,hR⟩:∃R,R=declB T S0 d:=⟨_,rfl⟩
 rw[←hR] at HDB hM ⊢
 rw[←htb] at HTY
 rw[←hnp] at HPA ⊢
 rw[←hni,←hits] at HIT
 rw[←hni]
 rw[←hte] at HTE
 have H0:Hid (DcI WB W b ib (.slice o n cap) #[.int .i64 d.kind,.string d.name,.slice op np cp,.slice oi ni ci,.int .i64 d.type,.int .i64 d.e,.int .i64 d.pos] S0 (W.alloc (.cells #[.int .i64 d.kind,.string d.name,.slice op np cp,.slice oi ni ci,.int .i64 d.type,.int .i64 d.e,.int .i64 d.pos] 33))):=Hd ⟨hw.out.alloc _,⟨by rw[hib];exact heap_alloc_new W _,by omega⟩,hbl.out.alloc hbs _,(qB _ _).alloc hbs _,others_below ((qB _ _).alloc (qL _) _)⟩
 obtain⟨V,hV⟩:∃V,V=W.alloc (.cells #[.int .i64 d.kind,.string d.name,.slice op np cp,.slice oi ni ci,.int .i64 d.type,.int .i64 d.e,.int .i64 d.pos] 33):=⟨_,rfl⟩
 rw[←hV] at H0
 clear hge hpb hnp hni htb hte hits hR d1 d4 d5 d6 hd hop hoi hpx hx TX hbb
 obtain⟨kd,nm,pas,dis,ty,e,pos⟩:=d
 dsimp only at *
 have mixed:prog.follows .mixedOrders=true:=by kernel_rfl
 have HBV:Hid (Below V.heap.size V V.drew):=Hd (qB _ _).drew
 go_enter Tryz.func19,Tryz.ntmps19
 by_cases k1:kd=1
 ·subst k1
  obtain⟨ea,rfl,hTX⟩:=HTE.out (by rfl)
  have HTX:=Hd hTX
  clear hTX
  have v0:V.cell? ⟨ib,0,none⟩=some (.int .i64 1):=H0.out.cell rfl
  have v1:V.cell? ⟨ib,1,none⟩=some (.string nm):=H0.out.cell rfl
  have v2:V.cell? ⟨ib,2,none⟩=some (.slice op np cp):=H0.out.cell rfl
  have v4:V.cell? ⟨ib,4,none⟩=some (.int .i64 ty):=H0.out.cell rfl
  have v5:V.cell? ⟨ib,5,none⟩=some (.int .i64 (ea:Int)):=H0.out.cell rfl
  have vs:=H0.out.s
  have e2:(⟨#[59,10]⟩:ByteArray)=⟨#[59]⟩++⟨#[10]⟩:=str_add [59] ⟨#[10]⟩
  rw[if_pos rfl] at HDB
  have CLa:Hid (∀Z,Below V.heap.size V Z→Calls prog 39 #[.pointer (some ⟨b,0,none⟩),.slice (some ⟨Z.heap.size,0,none⟩) 8 8] (Z.alloc (.cells #[.string ⟨#[102,117,110,32]⟩,.string nm,.string pb,.string ⟨#[58,32]⟩,.string tb,.string ⟨#[32,61,32]⟩,.string te,.string ⟨#[59]⟩] 9)) fun r U=>r=.returned (.tuple #[])∧Hid (DcI WB W b ib (.slice o n cap) #[.int .i64 1,.string nm,.slice op np cp,.slice oi ni ci,.int .i64 ty,.int .i64 (ea:Int),.int .i64 pos] R U)):=Hd fun Z hZ=>DcI.line (n:=8) (ws:=[⟨#[102,117,110,32]⟩,nm,pb,⟨#[58,32]⟩,tb,⟨#[32,61,32]⟩,te,⟨#[59]⟩]) rfl (by decide) H0.out hZ (by rw[HDB.out,e2];unfold catB;simp only[List.foldl,ByteArray.append_assoc]) (by have:=hM.out;omega)
  go_upto_region 3 with (fail)
  rw[←hV,←hib]
  clear hV hib
  have HBa0:Hid (Below V.heap.size V V.drew):=Hd (qB _ _).drew
  have HBaB:=Hd H0.out.2.2.1
  go_region_held3 (fun w'=>w'.cell? ⟨ib,1,none⟩=some (.string nm)∧w'.cell? ⟨ib,2,none⟩=some (.slice op np cp)∧w'.cell? ⟨ib,4,none⟩=some (.int .i64 ty)∧w'.cell? ⟨ib,5,none⟩=some (.int .i64 (ea:Int))∧w'.cell? ⟨b,2,none⟩=some (.slice o n cap))
   ((repeat' apply And.intro) <;> (repeat (first | with_reducible assumption | exact hNa.out.cell rfl | exact hNa.out.s | with_reducible refine drew_cell ?_ | with_reducible refine alloc_cell ?_ | with_reducible refine cell_below hba3.out ?_ | with_reducible refine cell_below hba2.out ?_ | with_reducible refine cell_below hba1.out ?_)))
   (first
    | (go_at_call 40;(with_reducible refine Calls.mono (HPA.out _ (HBaB.out.trans (HBa0.out.mono HBaB.out.size))) ?_);rintro e1 wa1 ⟨rfl,hba1⟩;have HBa1:Hid (Below V.heap.size V wa1):=Hd (below_tr HBa0.out hba1.out))
    | (go_at_call 41;(with_reducible refine Calls.mono (HTY.out _) ?_);rintro e2 wa2 ⟨rfl,hba2⟩;have HBa2:Hid (Below V.heap.size V wa2):=Hd (below_tr HBa1.out hba2.out))
    | (go_at_call 18;(with_reducible refine Calls.mono (HTX.out _ (HBaB.out.trans (HBa2.out.mono HBaB.out.size))) ?_);rintro e3 wa3 ⟨rfl,hba3⟩;have HBa3:Hid (Below V.heap.size V wa3):=Hd (below_tr HBa2.out hba3.out))
    | (go_at_call 39;(with_reducible refine Calls.mono (CLa.out wa3 HBa3.out) ?_);rintro e9 ua ⟨rfl,hNa⟩))
  all_goals (
   go_wp2_with fail
   go_end0
   exact⟨rfl,Hd ⟨hNa.out.1,hNa.out.2.2.2⟩⟩)
 by_cases k2:kd=2
 ·subst k2
  obtain⟨ea,rfl,hTX⟩:=HTE.out (by rfl)
  have HTX:=Hd hTX
  clear hTX
  have v0:V.cell? ⟨ib,0,none⟩=some (.int .i64 2):=H0.out.cell rfl
  have v1:V.cell? ⟨ib,1,none⟩=some (.string nm):=H0.out.cell rfl
  have v2:V.cell? ⟨ib,2,none⟩=some (.slice op np cp):=H0.out.cell rfl
  have v4:V.cell? ⟨ib,4,none⟩=some (.int .i64 ty):=H0.out.cell rfl
  have v5:V.cell? ⟨ib,5,none⟩=some (.int .i64 (ea:Int)):=H0.out.cell rfl
  have vs:=H0.out.s
  rw[if_neg (by decide),if_pos rfl] at HDB
  obtain⟨HH,hHH⟩:∃HH,HH=(((((((S0++⟨#[110,111,100,101,32]⟩)++nm)++pb)++⟨#[58,32]⟩)++tb)++⟨#[32,123,10]⟩)):=⟨_,rfl⟩
  rw[←hHH] at HDB
  have HHH:=Hd hHH
  clear hHH
  obtain⟨SI,hSI⟩:∃SI,SI=itsB T HH its ni:=⟨_,rfl⟩
  rw[←hSI] at HDB
  have HSI:=Hd hSI
  have e2:(⟨#[59,10]⟩:ByteArray)=⟨#[59]⟩++⟨#[10]⟩:=str_add [59] ⟨#[10]⟩
  have e3:(⟨#[125,10]⟩:ByteArray)=⟨#[125]⟩++⟨#[10]⟩:=str_add [125] ⟨#[10]⟩
  have e4:(⟨#[32,123,10]⟩:ByteArray)=⟨#[32,123]⟩++⟨#[10]⟩:=str_add [32,123] ⟨#[10]⟩
  have hle:HH.size≤SI.size∧SI.size≤R.size:=⟨by rw[hSI];exact itsB_le T HH its 0 ni (Nat.zero_le _),by rw[HDB.out];simp only[ByteArray.size_append];omega⟩
  have HLE:=Hd hle
  have HE:=Hd (show _∧_∧_ from⟨e2,e3,e4⟩)
  clear hSI hle e2 e3 e4
  have CLb:Hid (∀Z,Below V.heap.size V Z→Calls prog 39 #[.pointer (some ⟨b,0,none⟩),.slice (some ⟨Z.heap.size,0,none⟩) 6 6] (Z.alloc (.cells #[.string ⟨#[110,111,100,101,32]⟩,.string nm,.string pb,.string ⟨#[58,32]⟩,.string tb,.string ⟨#[32,123]⟩] 9)) fun r U=>r=.returned (.tuple #[])∧Hid (DcI WB W b ib (.slice o n cap) #[.int .i64 2,.string nm,.slice op np cp,.slice oi ni ci,.int .i64 ty,.int .i64 (ea:Int),.int .i64 pos] HH U)):=Hd fun Z hZ=>DcI.line (n:=6) (ws:=[⟨#[110,111,100,101,32]⟩,nm,pb,⟨#[58,32]⟩,tb,⟨#[32,123]⟩]) rfl (by decide) H0.out hZ (by rw[HHH.out,HE.out.2.2];unfold catB;simp only[List.foldl,ByteArray.append_assoc]) (by have:=HLE.out;have:=hM.out;omega)
  go_upto_region 5 with (fail)
  rw[←hV,←hib]
  clear hV hib
  have HBb0:Hid (Below V.heap.size V V.drew):=Hd (qB _ _).drew
  have HBbB:=Hd H0.out.2.2.1
  go_region_held3 (fun w'=>w'.cell? ⟨ib,1,none⟩=some (.string nm)∧w'.cell? ⟨ib,2,none⟩=some (.slice op np cp)∧w'.cell? ⟨ib,4,none⟩=some (.int .i64 ty))
   ((repeat' apply And.intro) <;> (repeat (first | with_reducible assumption | exact hNb.out.cell rfl | exact hNb.out.s | with_reducible refine drew_cell ?_ | with_reducible refine alloc_cell ?_ | with_reducible refine cell_below hbb2.out ?_ | with_reducible refine cell_below hbb1.out ?_)))
   (first
    | (go_at_call 40;(with_reducible refine Calls.mono (HPA.out _ (HBbB.out.trans (HBb0.out.mono HBbB.out.size))) ?_);rintro e1 wb1 ⟨rfl,hbb1⟩;have HBb1:Hid (Below V.heap.size V wb1):=Hd (below_tr HBb0.out hbb1.out))
    | (go_at_call 41;(with_reducible refine Calls.mono (HTY.out _) ?_);rintro e2 wb2 ⟨rfl,hbb2⟩;have HBb2:Hid (Below V.heap.size V wb2):=Hd (below_tr HBb1.out hbb2.out))
    | (go_at_call 39;(with_reducible refine Calls.mono (CLb.out wb2 HBb2.out) ?_);rintro e9 ub ⟨rfl,hNb⟩))
  all_goals (
   have x3:ub.cell? ⟨ib,3,none⟩=some (.slice oi ni ci):=hNb.out.cell rfl
   have CI:Hid (Calls prog 42 #[.pointer (some ⟨b,0,none⟩),.slice oi ni ci] ub fun r Z=>r=.returned (.tuple #[])∧Hid (DcI WB W b ib (.slice o n cap) #[.int .i64 2,.string nm,.slice op np cp,.slice oi ni ci,.int .i64 ty,.int .i64 (ea:Int),.int .i64 pos] SI Z)):=Hd ((HIT.out HH ub hNb.out.1 hNb.out.2.2.1 (by rw[←HSI.out];have:=HLE.out;have:=hM.out;omega)).mono fun r Z h=>⟨h.1,Hd (by rw[HSI.out];exact hNb.out.post h)⟩)
   go_wp2_with fail
   (with_reducible refine CI.out.mono ?_)
   rintro r wi ⟨rfl,hI⟩
   dsimp only
   have y5:wi.cell? ⟨ib,5,none⟩=some (.int .i64 (ea:Int)):=hI.out.cell rfl
   have ys:=hI.out.s
   have CLc:Hid (∀Z,Below wi.heap.size wi Z→Calls prog 39 #[.pointer (some ⟨b,0,none⟩),.slice (some ⟨Z.heap.size,0,none⟩) 3 3] (Z.alloc (.cells #[.string ⟨#[32,32,114,101,116,117,114,110,32]⟩,.string te,.string ⟨#[59]⟩] 9)) fun r U=>r=.returned (.tuple #[])∧Hid (DcI WB W b ib (.slice o n cap) #[.int .i64 2,.string nm,.slice op np cp,.slice oi ni ci,.int .i64 ty,.int .i64 (ea:Int),.int .i64 pos] (((SI++⟨#[32,32,114,101,116,117,114,110,32]⟩)++te)++⟨#[59,10]⟩) U)):=Hd fun Z hZ=>DcI.line (n:=3) (ws:=[⟨#[32,32,114,101,116,117,114,110,32]⟩,te,⟨#[59]⟩]) rfl (by decide) hI.out hZ (by rw[HE.out.1];unfold catB;simp only[List.foldl,ByteArray.append_assoc]) (by have:=hM.out;rw[HDB.out,ByteArray.size_append] at this;omega)
   go_upto_region 7 with (fail)
   have HBc0:Hid (Below wi.heap.size wi wi.drew):=Hd (qB _ _).drew
   have HBcB:=Hd hI.out.2.2.1
   go_region_held3 (fun w'=>w'.cell? ⟨ib,5,none⟩=some (.int .i64 (ea:Int))∧w'.cell? ⟨b,2,none⟩=some (.slice o n cap))
    ((repeat' apply And.intro) <;> (repeat (first | with_reducible assumption | exact hNc.out.cell rfl | exact hNc.out.s | with_reducible refine drew_cell ?_ | with_reducible refine alloc_cell ?_ | with_reducible refine cell_below hbc1.out ?_)))
    (first
     | (go_at_call 18;(with_reducible refine Calls.mono (HTX.out _ (HBcB.out.trans (HBc0.out.mono HBcB.out.size))) ?_);rintro e1 wc1 ⟨rfl,hbc1⟩;have HBc1:Hid (Below wi.heap.size wi wc1):=Hd (below_tr HBc0.out hbc1.out))
     | (go_at_call 39;(with_reducible refine Calls.mono (CLc.out wc1 HBc1.out) ?_);rintro e9 uc ⟨rfl,hNc⟩))
   all_goals (
    have CE:Hid (Calls prog 39 #[.pointer (some ⟨b,0,none⟩),.slice (some ⟨uc.heap.size,0,none⟩) 1 1] (uc.alloc (.cells #[.string ⟨#[125]⟩] 9)) fun r U=>r=.returned (.tuple #[])∧Hid (DcI WB W b ib (.slice o n cap) #[.int .i64 2,.string nm,.slice op np cp,.slice oi ni ci,.int .i64 ty,.int .i64 (ea:Int),.int .i64 pos] R U)):=Hd (DcI.line (n:=1) (ws:=[⟨#[125]⟩]) rfl (by decide) hNc.out (qB _ _) (by rw[HDB.out,HE.out.2.1];unfold catB;simp only[List.foldl,ByteArray.append_assoc]) (by have:=hM.out;omega))
    go_wp2_with fail
    (with_reducible refine CE.out.mono ?_)
    rintro r wz ⟨rfl,hZ⟩
    dsimp only
    go_wp2_with fail
    go_end0
    exact⟨rfl,Hd ⟨hZ.out.1,hZ.out.2.2.2⟩⟩))
 ·obtain rfl:kd=3:=by omega
  have v0:V.cell? ⟨ib,0,none⟩=some (.int .i64 3):=H0.out.cell rfl
  have v1:V.cell? ⟨ib,1,none⟩=some (.string nm):=H0.out.cell rfl
  have v2:V.cell? ⟨ib,2,none⟩=some (.slice op np cp):=H0.out.cell rfl
  rw[if_neg (by decide),if_neg (by decide)] at HDB
  obtain⟨HH,hHH⟩:∃HH,HH=((((S0++⟨#[104,121,98,114,105,100,32]⟩)++nm)++pb)++⟨#[32,123,10]⟩):=⟨_,rfl⟩
  rw[←hHH] at HDB
  have HHH:=Hd hHH
  clear hHH
  obtain⟨SI,hSI⟩:∃SI,SI=itsB T HH its ni:=⟨_,rfl⟩
  rw[←hSI] at HDB
  have HSI:=Hd hSI
  have e2:(⟨#[59,10]⟩:ByteArray)=⟨#[59]⟩++⟨#[10]⟩:=str_add [59] ⟨#[10]⟩
  have e3:(⟨#[125,10]⟩:ByteArray)=⟨#[125]⟩++⟨#[10]⟩:=str_add [125] ⟨#[10]⟩
  have e4:(⟨#[32,123,10]⟩:ByteArray)=⟨#[32,123]⟩++⟨#[10]⟩:=str_add [32,123] ⟨#[10]⟩
  have hle:HH.size≤SI.size∧SI.size≤R.size:=⟨by rw[hSI];exact itsB_le T HH its 0 ni (Nat.zero_le _),by rw[HDB.out];simp only[ByteArray.size_append];omega⟩
  have HLE:=Hd hle
  have HE:=Hd (show _∧_∧_ from⟨e2,e3,e4⟩)
  clear hSI hle e2 e3 e4
  have CLd:Hid (∀Z,Below V.heap.size V Z→Calls prog 39 #[.pointer (some ⟨b,0,none⟩),.slice (some ⟨Z.heap.size,0,none⟩) 4 4] (Z.alloc (.cells #[.string ⟨#[104,121,98,114,105,100,32]⟩,.string nm,.string pb,.string ⟨#[32,123]⟩] 9)) fun r U=>r=.returned (.tuple #[])∧Hid (DcI WB W b ib (.slice o n cap) #[.int .i64 3,.string nm,.slice op np cp,.slice oi ni ci,.int .i64 ty,.int .i64 e,.int .i64 pos] HH U)):=Hd fun Z hZ=>DcI.line (n:=4) (ws:=[⟨#[104,121,98,114,105,100,32]⟩,nm,pb,⟨#[32,123]⟩]) rfl (by decide) H0.out hZ (by rw[HHH.out,HE.out.2.2];unfold catB;simp only[List.foldl,ByteArray.append_assoc]) (by have:=HLE.out;have:=hM.out;omega)
  go_upto_region 10 with (fail)
  rw[←hV,←hib]
  clear hV hib
  have HBd0:Hid (Below V.heap.size V V.drew):=Hd (qB _ _).drew
  have HBdB:=Hd H0.out.2.2.1
  go_region_held3 (fun w'=>w'.cell? ⟨ib,1,none⟩=some (.string nm)∧w'.cell? ⟨ib,2,none⟩=some (.slice op np cp))
   ((repeat' apply And.intro) <;> (repeat (first | with_reducible assumption | exact hNd.out.cell rfl | exact hNd.out.s | with_reducible refine drew_cell ?_ | with_reducible refine alloc_cell ?_ | with_reducible refine cell_below hbd1.out ?_)))
   (first
    | (go_at_call 40;(with_reducible refine Calls.mono (HPA.out _ (HBdB.out.trans (HBd0.out.mono HBdB.out.size))) ?_);rintro e1 wd1 ⟨rfl,hbd1⟩;have HBd1:Hid (Below V.heap.size V wd1):=Hd (below_tr HBd0.out hbd1.out))
    | (go_at_call 39;(with_reducible refine Calls.mono (CLd.out wd1 HBd1.out) ?_);rintro e9 ud ⟨rfl,hNd⟩))
  all_goals (
   have x3:ud.cell? ⟨ib,3,none⟩=some (.slice oi ni ci):=hNd.out.cell rfl
   have CI:Hid (Calls prog 42 #[.pointer (some ⟨b,0,none⟩),.slice oi ni ci] ud fun r Z=>r=.returned (.tuple #[])∧Hid (DcI WB W b ib (.slice o n cap) #[.int .i64 3,.string nm,.slice op np cp,.slice oi ni ci,.int .i64 ty,.int .i64 e,.int .i64 pos] SI Z)):=Hd ((HIT.out HH ud hNd.out.1 hNd.out.2.2.1 (by rw[←HSI.out];have:=HLE.out;have:=hM.out;omega)).mono fun r Z h=>⟨h.1,Hd (by rw[HSI.out];exact hNd.out.post h)⟩)
   go_wp2_with fail
   (with_reducible refine CI.out.mono ?_)
   rintro r wi ⟨rfl,hI⟩
   dsimp only
   have CE:Hid (Calls prog 39 #[.pointer (some ⟨b,0,none⟩),.slice (some ⟨wi.heap.size,0,none⟩) 1 1] (wi.alloc (.cells #[.string ⟨#[125]⟩] 9)) fun r U=>r=.returned (.tuple #[])∧Hid (DcI WB W b ib (.slice o n cap) #[.int .i64 3,.string nm,.slice op np cp,.slice oi ni ci,.int .i64 ty,.int .i64 e,.int .i64 pos] R U)):=Hd (DcI.line (n:=1) (ws:=[⟨#[125]⟩]) rfl (by decide) hI.out (qB _ _) (by rw[HDB.out,HE.out.2.1];unfold catB;simp only[List.foldl,ByteArray.append_assoc]) (by have:=hM.out;omega))
   go_wp2_with fail
   (with_reducible refine CE.out.mono ?_)
   rintro r wz ⟨rfl,hZ⟩
   dsimp only
   go_wp2_with fail
   go_end0
   exact⟨rfl,Hd ⟨hZ.out.1,hZ.out.2.2.2⟩⟩)
theorem may_any (sd se:Value) (p:Pr) (w:World) (h:ProgAt w sd se p) (hs:Small p):Calls prog 17 #[.agg #[sd,se]] w fun e w'=>MayPost (mayP p) w e w':=by
 obtain⟨⟨o1,dcap,db,doff,rfl,hd1,hd2,hd3,hd4⟩,⟨o2,cap,b,off,rfl,he1,he2,he3,he4⟩,h3,h4⟩:=h
 exact may_core o1 o2 b off cap db doff dcap p _ _ (Hd rfl) (Hd rfl) (by have:=hs.exprs;omega) (by have:=hs.decls;omega) w (Hd hs) (Hd he3) (Hd hd3) (Hd he4) (Hd hd4)
theorem wr_new_at (B:Nat) (W:World) (hB:B≤W.heap.size) (sx:Value):Wd B W.heap.size sx ⟨#[]⟩ (W.alloc (.cells #[.pointer none,.slice none 0 0,sx] 59)) :=
 ⟨[],rfl,.inl ⟨hB,_,heap_alloc_new W _,qO _ _ _ _,fun h=>by cases h⟩⟩
theorem progB_le (T:Int→ByteArray) (l:List De) (i j:Nat) (h:i≤j):(progB T l i).size≤(progB T l j).size:=by
 induction j with
 | zero =>
      obtain rfl:i=0:=by omega
      exact qL _
 | succ j ih =>
  rcases Nat.lt_or_ge i (j+1) with h1 | h1
  ·have h2:=ih (by omega)
   have h3:=(declB_ge T (progB T l j) (l.getD j deZ)).1
   show _≤(declB T (progB T l j) (l.getD j deZ)).size
   omega
  ·obtain rfl:i=j+1:=by omega
   exact qL _
theorem progB_pos (T:Int→ByteArray) (l:List De) (j:Nat):(progB T l (j+1)).size≠0:=by
 have h:=(declB_ge T (progB T l j) (l.getD j deZ)).2.1
 show(declB T (progB T l j) (l.getD j deZ)).size≠0
 unfold parB at h
 rw[ByteArray.size_append] at h
 have:(⟨#[41]⟩:ByteArray).size=1:=rfl
 omega
theorem program_none (p:Pr) (od oe:Option Addr) (nd cd n cap:Nat) (W0:World) (MA:Hid (∀Y,Below W0.heap.size W0 Y→Calls prog 17 #[.agg #[.slice od nd cd,.slice oe n cap]] Y fun r Z=>r=.returned (.bool false)∧Hid (Below Y.heap.size Y Z))) :
  Calls prog 8 #[.agg #[.slice od nd cd,.slice oe n cap]] W0 fun r Y=>r=.returned (.string ⟨#[]⟩)∧Below W0.heap.size W0 Y:=by
 have HB:Hid (Below W0.heap.size W0 (W0.alloc (.cells #[.slice od nd cd,.slice oe n cap] 25))):=Hd ((qB _ _).alloc (qL _) _)
 have C:=Hd (MA.out _ HB.out)
 go_enter Tryz.func8,Tryz.ntmps8
 go_wp2_with (go_at_call 17;(with_reducible refine C.out.mono ?_);rintro r w1 ⟨rfl,h1⟩)
 go_ret
 exact⟨rfl,below_tr HB.out h1.out⟩
theorem program_any (p:Pr) (od oe:Option Addr) (nd cd n cap bd fd:Nat) (hnd:Hid (p.decls.length=nd)) (ndl:(nd:Int)≤100000) (W0:World) (MA:Hid (∀Y,Below W0.heap.size W0 Y→Calls prog 17 #[.agg #[.slice od nd cd,.slice oe n cap]] Y fun r Z=>r=.returned (.bool true)∧Hid (Below Y.heap.size Y Z)))
  (T:Int→ByteArray) (ne:Nat) (TX:Hid (∀e:Nat,e<ne→∀Y,Below W0.heap.size W0 Y→Calls prog 18 #[.slice oe n cap,.int .i64 (e:Int)] Y fun r Z=>r=.returned (.string (T (e:Int)))∧Below Y.heap.size Y Z))
  (hod:Hid (0<nd→od=some ⟨bd,fd,none⟩)) (hc:Hid (∀i,i<nd→∀d,p.decls[i]?=some d→DeAt W0 bd (fd+i*7) d)) (hd:Hid (∀d ∈ p.decls,mayD ne d=true∧1≤d.kind∧d.kind≤3∧(∀y ∈ d.items,1≤y.kind∧y.kind≤8)∧d.items.length≤1000∧d.params.length≤100000))
  (R:ByteArray) (hR:Hid (R=progB T p.decls nd)) (hM:Hid (R.size≤10000000000000)) :
  Calls prog 8 #[.agg #[.slice od nd cd,.slice oe n cap]] W0 fun r Y=>r=.returned (.string R)∧Below W0.heap.size W0 Y:=by
 obtain⟨Wb,hWb⟩:∃Wb,Wb=W0.alloc (.cells #[.slice od nd cd,.slice oe n cap] 25):=⟨_,rfl⟩
 have HB:Hid (Below W0.heap.size W0 Wb):=Hd (by rw[hWb];exact(qB _ _).alloc (qL _) _)
 have C:=Hd (MA.out _ HB.out)
 have b0:Wb.cell? ⟨W0.heap.size,0,none⟩=some (.slice od nd cd):=by rw[hWb];exact new_cell rfl rfl
 have b1:Wb.cell? ⟨W0.heap.size,1,none⟩=some (.slice oe n cap):=by rw[hWb];exact new_cell rfl rfl
 go_enter Tryz.func8,Tryz.ntmps8
 go_wp2_with fail
 rw[←hWb]
 clear hWb
 (with_reducible refine C.out.mono ?_)
 rintro r w1 ⟨rfl,h1⟩
 dsimp only
 have c0:=cell_below h1.out b0
 have c1:=cell_below h1.out b1
 have HB1:=Hd (below_tr HB.out h1.out)
 have hs1:=HB1.out.size
 obtain⟨b,hb⟩:∃b,b=w1.heap.size:=⟨_,rfl⟩
 obtain⟨W2,hW2⟩:∃W2,W2=w1.alloc (.cells #[.pointer none,.slice none 0 0,.slice oe n cap] 59):=⟨_,rfl⟩
 have d0:W2.cell? ⟨W0.heap.size,0,none⟩=some (.slice od nd cd):=by rw[hW2];exact alloc_cell c0
 have H2:Hid (Wd W0.heap.size b (.slice oe n cap) ⟨#[]⟩ W2∧Below W0.heap.size W0 W2∧W2.heap[b]?=some (.cells #[.pointer none,.slice none 0 0,.slice oe n cap] 59 (0,0))):=Hd ⟨by rw[hW2,hb];exact wr_new_at _ w1 hs1 _,by rw[hW2];exact HB1.out.alloc hs1 _,by rw[hW2,hb];exact heap_alloc_new w1 _⟩
 clear b0 b1 C MA
 go_upto_region 4 with (fail)
 rw[←hW2,←hb]
 clear hW2 hb c0 c1
 go_wp2_with fail
 go_loopw [16] (fun i wr=>∃j:Nat,j≤nd∧i=.int .i64 (j:Int)∧Hid (Wd W0.heap.size b (.slice oe n cap) (progB T p.decls j) wr∧Below W0.heap.size W0 wr∧(j=0→wr.heap[b]?=some (.cells #[.pointer none,.slice none 0 0,.slice oe n cap] 59 (0,0))))) (fun i _=>nd-litLen i)
 case atStart=>exact⟨0,Nat.zero_le _,rfl,Hd ⟨H2.out.1,H2.out.2.1,fun _=>H2.out.2.2⟩⟩
 case round =>
  obtain⟨j,hj,rfl,hI⟩:=hrel
  rcases Nat.lt_or_ge j nd with hlt | hge
  ·have q1:decide ((j:Int)<(nd:Int))=true:=qT (by omega)
   obtain⟨d,hdj⟩:∃d,p.decls[j]?=some d:=⟨_,List.getElem?_eq_getElem (by have:=hnd.out;omega)⟩
   obtain⟨_,_,a0,a1,a2,a3,a4,a5,a6,hps,hit,hok⟩:=hc.out j hlt d hdj
   obtain⟨op,cp,bp,fp,rfl,_,_,hop,hpx⟩:=hps
   obtain⟨oi,ci,bi,fi,rfl,_,_,hoi,hix⟩:=hit
   replace a0:=cell_below hI.out.2.1 a0
   replace a1:=cell_below hI.out.2.1 a1
   replace a2:=cell_below hI.out.2.1 a2
   replace a3:=cell_below hI.out.2.1 a3
   replace a4:=cell_below hI.out.2.1 a4
   replace a5:=cell_below hI.out.2.1 a5
   replace a6:=cell_below hI.out.2.1 a6
   have ix:=ix_des (cap:=cd) hod.out hlt (by omega)
   unfold Ix at ix
   have hsw:=hI.out.2.1.size
   have hNX:progB T p.decls (j+1)=declB T (progB T p.decls j) d:=by
    show declB T (progB T p.decls j) (p.decls.getD j deZ)=_
    rw[List.getD_eq_getElem?_getD,hdj];rfl
   obtain⟨R2,hR2⟩:∃R2,R2=progB T p.decls (j+1):=⟨_,rfl⟩
   have CD:Hid (∀o1,Calls prog 19 #[.pointer (some ⟨b,0,none⟩),.agg #[.int .i64 d.kind,.string d.name,.slice op d.params.length cp,.slice oi d.items.length ci,.int .i64 d.type,.int .i64 d.e,.int .i64 d.pos]] (wr.alloc o1) fun r Y=>r=.returned (.tuple #[])∧Hid (Wd W0.heap.size b (.slice oe n cap) R2 Y∧Below W0.heap.size W0 Y)):=Hd fun o1 =>
    (decl_any W0 b oe n cap T ne TX d (Hd (hd.out d (List.mem_of_getElem? hdj))) op oi cp ci bp fp bi fi (Hd hop) (Hd hoi) (Hd hpx) (Hd hix) (progB T p.decls j) (wr.alloc o1) (Hd (hI.out.1.alloc o1)) (Hd (hI.out.2.1.alloc hsw o1)) (Hd (by
     rw[←hNX]
     have h1:=progB_le T p.decls (j+1) nd hlt
     have h2:=hM.out
     rw[hR.out] at h2
     omega))).mono fun r Y h=>⟨h.1,Hd ⟨by rw[hR2,hNX];exact h.2.out.1,(hI.out.2.1.alloc hsw o1).trans h.2.out.2.1⟩⟩
   have HR2:=Hd hR2
   obtain⟨kd,nm,pas,dis,ty,e,pos⟩:=d
   dsimp only at a0 a1 a2 a3 a4 a5 a6 CD
   clear hdj hok hop hpx hoi hix hNX hR2
   go_wp2_with fail
   (with_reducible refine(CD.out _).mono ?_)
   rintro r w3 ⟨rfl,h3⟩
   dsimp only
   go_wp2_with fail
   exact⟨⟨j+1,by omega,by go_num,Hd ⟨by rw[←HR2.out];exact h3.out.1,h3.out.2,fun h=>by omega⟩⟩,by simp[litLen];omega⟩
  ·have q1:decide ((j:Int)<(nd:Int))=false:=qF (by omega)
   obtain rfl:j=nd:=by omega
   have CS:Hid (Calls prog 20 #[.pointer (some ⟨b,0,none⟩)] wr fun e w'=>e=.returned (.string R)∧Hid (Below W0.heap.size wr w')):=Hd (by
    cases j with
    | zero =>
     rw[hR.out]
     exact(string_fresh W0.heap.size b _ _ wr (hI.out.2.2 rfl)).mono fun r Z h=>⟨h.1,Hd h.2⟩
    | succ j =>
     obtain⟨m,e,h⟩:=hI.out.1
     exact(string_of W0.heap.size b _ m R wr h (by rw[e,hR.out]) (by rw[hR.out];exact progB_pos T p.decls j)).mono fun r Z h=>⟨h.1,Hd h.2⟩)
   go_wp2_with (go_at_call 20;(with_reducible refine CS.out.mono ?_);rintro r w3 ⟨rfl,h3⟩)
   go_ret
   exact⟨rfl,hI.out.2.1.trans h3.out⟩
theorem expr_out (od oe:Option Addr) (nd cd n cap:Nat) (e:Int) (nl:(n:Int)≤1000000) (W0:World) (h:e<0∨(n:Int)≤e) :
  Calls prog 7 #[.agg #[.slice od nd cd,.slice oe n cap],.int .i64 e] W0 fun r Y=>r=.returned (.string ⟨#[]⟩)∧Below W0.heap.size W0 Y:=by
 have HB:Hid (Below W0.heap.size W0 (W0.alloc (.cells #[.slice od nd cd,.slice oe n cap] 25))):=Hd ((qB _ _).alloc (qL _) _)
 rcases Int.lt_or_le e 0 with h0 | h0
 ·have q1:decide (e<0)=true:=qT h0
  go_enter Tryz.func7,Tryz.ntmps7
  go_wp2_with fail
  go_ret
  exact⟨rfl,HB.out⟩
 ·have q1:decide (e<0)=false:=qF (by omega)
  have q2:decide ((n:Int)≤e)=true:=qT (by omega)
  go_enter Tryz.func7,Tryz.ntmps7
  go_wp2_with fail
  go_ret
  exact⟨rfl,HB.out⟩
theorem expr_none (od oe:Option Addr) (nd cd n cap:Nat) (e:Int) (h0:0≤e) (h1:e<(n:Int)) (W0:World) (MA:Hid (∀Y,Below W0.heap.size W0 Y→Calls prog 17 #[.agg #[.slice od nd cd,.slice oe n cap]] Y fun r Z=>r=.returned (.bool false)∧Hid (Below Y.heap.size Y Z))) :
  Calls prog 7 #[.agg #[.slice od nd cd,.slice oe n cap],.int .i64 e] W0 fun r Y=>r=.returned (.string ⟨#[]⟩)∧Below W0.heap.size W0 Y:=by
 have HB:Hid (Below W0.heap.size W0 (W0.alloc (.cells #[.slice od nd cd,.slice oe n cap] 25))):=Hd ((qB _ _).alloc (qL _) _)
 have C:=Hd (MA.out _ HB.out)
 have q1:decide (e<0)=false:=qF (by omega)
 have q2:decide ((n:Int)≤e)=false:=qF (by omega)
 go_enter Tryz.func7,Tryz.ntmps7
 go_wp2_with (go_at_call 17;(with_reducible refine C.out.mono ?_);rintro r w1 ⟨rfl,h1⟩)
 go_ret
 exact⟨rfl,below_tr HB.out h1.out⟩
theorem expr_some (od oe:Option Addr) (nd cd n cap:Nat) (e:Nat) (h1:e<n) (W0:World) (t:ByteArray) (MA:Hid (∀Y,Below W0.heap.size W0 Y→Calls prog 17 #[.agg #[.slice od nd cd,.slice oe n cap]] Y fun r Z=>r=.returned (.bool true)∧Hid (Below Y.heap.size Y Z)))
  (TX:Hid (∀Y,Below W0.heap.size W0 Y→Calls prog 18 #[.slice oe n cap,.int .i64 (e:Int)] Y fun r Z=>r=.returned (.string t)∧Hid (Below Y.heap.size Y Z))) :
  Calls prog 7 #[.agg #[.slice od nd cd,.slice oe n cap],.int .i64 (e:Int)] W0 fun r Y=>r=.returned (.string t)∧Below W0.heap.size W0 Y:=by
 obtain⟨Wb,hWb⟩:∃Wb,Wb=W0.alloc (.cells #[.slice od nd cd,.slice oe n cap] 25):=⟨_,rfl⟩
 have HB:Hid (Below W0.heap.size W0 Wb):=Hd (by rw[hWb];exact(qB _ _).alloc (qL _) _)
 have C:=Hd (MA.out _ HB.out)
 have b0:Wb.cell? ⟨W0.heap.size,0,none⟩=some (.slice od nd cd):=by rw[hWb];exact new_cell rfl rfl
 have b1:Wb.cell? ⟨W0.heap.size,1,none⟩=some (.slice oe n cap):=by rw[hWb];exact new_cell rfl rfl
 have q1:decide ((e:Int)<0)=false:=qF (by omega)
 have q2:decide ((n:Int)≤(e:Int))=false:=qF (by omega)
 go_enter Tryz.func7,Tryz.ntmps7
 go_upto_region 1 with (fail)
 rw[←hWb]
 clear hWb
 go_wp2_with (first
  | (go_at_call 17;(with_reducible refine C.out.mono ?_);rintro r w1 ⟨rfl,h1⟩;have c1:=cell_below h1.out b1;have HB1:=Hd (below_tr HB.out h1.out))
  | (go_at_call 18;(with_reducible refine(TX.out _ HB1.out).mono ?_);rintro r w2 ⟨rfl,h2⟩))
 go_ret
 exact⟨rfl,below_tr HB1.out h2.out⟩
end Go.Proofs.YthpgfahlccljnaaGreatDoor
namespace Go.Proofs.YthpgfahlccljnaaGreatDoor
open Lx
def GoodX (x:Ex) (i:Nat):Prop:=mayE x i=true∧ExOk x
def AllGood (l:List Ex):Prop:=∀i x,l[i]?=some x→GoodX x i
structure Go (ts:List Tok) (k:Nat) (σ τ:RS):Prop where
 at_:σ.at_≤τ.at_
 lt:τ.at_<ts.length
 room:τ.exprs.length+σ.at_+k≤σ.exprs.length+τ.at_
 bad:σ.code≠0→τ.code≠0
 more:σ.exprs.length≤τ.exprs.length
 good:τ.code=0→AllGood σ.exprs→AllGood τ.exprs
end Go.Proofs.YthpgfahlccljnaaGreatDoor
namespace Go.Proofs.YthpgfahlccljnaaGreatDoor
open Go.RowKit Lx
theorem expr_cases {ts:List Tok} {f:Nat} {σ:RS} {R:Int×List Int×RS} (h:runE ts (f+1) .expr σ=some R):okS σ=true ∧
  (((enterS ts σ).code≠0∧R=(0,[],leaveS (enterS ts σ))) ∨
  ((enterS ts σ).code=0∧isS ts [105,102] (enterS ts σ)=true∧∃a la s2 b lb s3 c lc s4,runE ts f .expr (stepS (enterS ts σ))=some (a,la,s2)∧runE ts f .expr (wantS ts [116,104,101,110] s2)=some (b,lb,s3) ∧
   runE ts f .expr (wantS ts [101,108,115,101] s3)=some (c,lc,s4)∧okS s4=true∧R=((s4.exprs.length:Int),[],leaveS (putS { ex0 with kind:=15,a:=a,b:=b,c:=c,pos:=((tokL ts (enterS ts σ).at_).at_:Int) } s4))) ∨
  ((enterS ts σ).code=0∧isS ts [105,102] (enterS ts σ)=false∧∃o lo y,runE ts f (.bin 1) (enterS ts σ)=some (o,lo,y) ∧
   ((isS ts [45,62] y=true∧∃bv lb z,runE ts f .expr (stepS y)=some (bv,lb,z)∧okS z=true∧R=((z.exprs.length:Int),[],leaveS (putS (twoE 17 o bv (tokL ts y.at_).at_) z))) ∨
   (isS ts [45,62] y=false∧isS ts [102,98,121] y=true∧∃bv lb z,runE ts f .expr (stepS y)=some (bv,lb,z)∧okS z=true∧R=((z.exprs.length:Int),[],leaveS (putS (twoE 18 o bv (tokL ts y.at_).at_) z))) ∨
   (isS ts [45,62] y=false∧isS ts [102,98,121] y=false∧okS y=true∧R=(o,[],leaveS y))))):=by
 simp only[runE] at h
 split at h
 ·rename_i hok
  refine⟨hok,?_⟩
  unfold exprG at h
  dsimp only at h
  split at h
  ·rename_i hc
   split at h
   ·rename_i hi
    cases h1:runE ts f .expr (stepS (enterS ts σ)) with
    | none=>rw[h1] at h;cases h
    | some q1 =>
     rw[h1] at h
     simp only[Option.bind_some] at h
     cases h2:runE ts f .expr (wantS ts [116,104,101,110] q1.2.2) with
     | none=>rw[h2] at h;cases h
     | some q2 =>
      rw[h2] at h
      simp only[Option.bind_some] at h
      cases h3:runE ts f .expr (wantS ts [101,108,115,101] q2.2.2) with
      | none=>rw[h3] at h;cases h
      | some q3 =>
       rw[h3] at h
       simp only[Option.bind_some] at h
       unfold putA at h
       split at h
       ·rename_i hk
        exact .inr (.inl ⟨hc,hi,q1.1,q1.2.1,q1.2.2,q2.1,q2.2.1,q2.2.2,q3.1,q3.2.1,q3.2.2,rfl,h2,h3,hk,(qI h).symm⟩)
       ·cases h
   ·rename_i hi
    cases h1:runE ts f (.bin 1) (enterS ts σ) with
    | none=>rw[h1] at h;cases h
    | some q1 =>
     rw[h1] at h
     simp only[Option.bind_some] at h
     refine .inr (.inr ⟨hc,by simpa using hi,q1.1,q1.2.1,q1.2.2,rfl,?_⟩)
     split at h
     ·rename_i ha
      cases h2:runE ts f .expr (stepS q1.2.2) with
      | none=>rw[h2] at h;cases h
      | some q2 =>
       rw[h2] at h
       simp only[Option.bind_some] at h
       unfold putA at h
       split at h
       ·rename_i hk
        exact .inl ⟨ha,q2.1,q2.2.1,q2.2.2,rfl,hk,(qI h).symm⟩
       ·cases h
     ·rename_i ha
      split at h
      ·rename_i hb
       cases h2:runE ts f .expr (stepS q1.2.2) with
       | none=>rw[h2] at h;cases h
       | some q2 =>
        rw[h2] at h
        simp only[Option.bind_some] at h
        unfold putA at h
        split at h
        ·rename_i hk
         exact .inr (.inl ⟨by simpa using ha,hb,q2.1,q2.2.1,q2.2.2,rfl,hk,(qI h).symm⟩)
        ·cases h
      ·rename_i hb
       split at h
       ·rename_i hk
        exact .inr (.inr ⟨by simpa using ha,by simpa using hb,hk,(qI h).symm⟩)
       ·cases h
  ·rename_i hc
   exact .inl ⟨hc,(qI h).symm⟩
 ·cases h
theorem pre_cases {ts:List Tok} {f:Nat} {σ:RS} {R:Int×List Int×RS} (h:runE ts (f+1) .pre σ=some R):okS σ=true ∧
  (((enterS ts σ).code≠0∧R=(0,[],leaveS (enterS ts σ))) ∨
  ((enterS ts σ).code=0∧prefixK ts (enterS ts σ) prefixL=0∧∃v l y,runE ts f .atom (enterS ts σ)=some (v,l,y)∧okS y=true∧R=(v,[],leaveS y)) ∨
  ((enterS ts σ).code=0∧prefixK ts (enterS ts σ) prefixL≠0∧∃v l y,runE ts f .pre (stepS (enterS ts σ))=some (v,l,y)∧okS y=true ∧
   R=((y.exprs.length:Int),[],leaveS (putS { ex0 with kind:=prefixK ts (enterS ts σ) prefixL,a:=v,pos:=((tokL ts (enterS ts σ).at_).at_:Int) } y)))):=by
 simp only[runE] at h
 split at h
 ·rename_i hok
  refine⟨hok,?_⟩
  unfold preG at h
  dsimp only at h
  split at h
  ·rename_i hc
   split at h
   ·rename_i hi
    cases h1:runE ts f .atom (enterS ts σ) with
    | none=>rw[h1] at h;cases h
    | some q1 =>
     rw[h1] at h
     simp only[Option.bind_some] at h
     split at h
     ·rename_i hk
      exact .inr (.inl ⟨hc,hi,q1.1,q1.2.1,q1.2.2,rfl,hk,(qI h).symm⟩)
     ·cases h
   ·rename_i hi
    cases h1:runE ts f .pre (stepS (enterS ts σ)) with
    | none=>rw[h1] at h;cases h
    | some q1 =>
     rw[h1] at h
     simp only[Option.bind_some] at h
     unfold putA at h
     split at h
     ·rename_i hk
      exact .inr (.inr ⟨hc,hi,q1.1,q1.2.1,q1.2.2,rfl,hk,(qI h).symm⟩)
     ·cases h
  ·rename_i hc
   exact .inl ⟨hc,(qI h).symm⟩
 ·cases h
end Go.Proofs.YthpgfahlccljnaaGreatDoor
