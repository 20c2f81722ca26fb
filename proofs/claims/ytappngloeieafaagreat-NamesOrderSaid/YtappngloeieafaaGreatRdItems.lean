/- The reference's rule for items: outs. -/
import Derived.Test.YtappngloeieafaaGreatRdNone
import Derived.Test.YtappngloeieafaaGreatRdArgs
namespace Go.Proofs.YtappngloeieafaaGreat
open Go.RowKit Lx

abbrev It3 := Int × ByteArray × Int
def itemG (ts : List Tok) (σ : RS) : Option (Int × ByteArray × Int × Bool × RS) :=
  if isS ts [111, 117, 116] σ = true then some (8, str (nameV ts (stepS σ)), ((tokL ts σ.at_).at_ : Int), decide ((wantS ts [59] (nameS ts (stepS σ))).code = 0), wantS ts [59] (nameS ts (stepS σ)))
  else if itemWords.all (fun s => !isS ts s σ) = true then some (0, ⟨#[]⟩, ((tokL ts σ.at_).at_ : Int), false, σ) else none
def itemsL (ts : List Tok) : Nat → List It3 → RS → Option (List It3 × RS)
  | 0, _, _ => none
  | f + 1, acc, σ => if acc.length ≤ 1000 then (if σ.code = 0 then (itemG ts σ).bind fun r => if r.2.2.2.1 = true then itemsL ts f (acc ++ [(r.1, r.2.1, r.2.2.1)]) r.2.2.2.2 else some (acc, r.2.2.2.2) else some (acc, σ)) else none
def it3C (l : List It3) : List Value := l.flatMap fun x => (itA x.1 x.2.1 x.2.2).toList
theorem it3C_snoc (l : List It3) (x : It3) : it3C (l ++ [x]) = it3C l ++ (itA x.1 x.2.1 x.2.2).toList := by unfold it3C; rw [List.flatMap_append]; simp
theorem item_any (b g cap : Nat) (dv : Value) (ts : List Tok) (xb : Nat → Prop) (σ : RS) (k : Int) (nm : ByteArray) (p : Int) (ok : Bool) (τ : RS) (hr : itemG ts σ = some (k, nm, p, ok, τ)) (W : World) (h : Hid (Rd W b g cap dv ts xb σ)) :
    Calls Tryz.prog 120 #[.pointer (some ⟨b, 0, none⟩), .bool true] W fun r Y => ItRet b g cap dv ts xb W k nm p ok τ r Y := by
  unfold itemG at hr
  split at hr
  · rename_i ho
    cases hr
    exact item_out b g cap dv ts xb σ ho W h
  · split at hr
    · rename_i _ hn
      cases hr
      exact item_none b g cap dv ts xb _ (fun s hs => by have := List.all_eq_true.1 hn s hs; simpa using this) W h
    · cases hr
theorem it_info : (Tryz.prog.info? 62).map (fun i => (i.zero, i.size, i.bytes)) = some (some (.agg #[.int .i64 0, .string ⟨#[]⟩, .int .i64 0, .int .i64 0, .int .i64 0, .slice none 0 0, .string ⟨#[]⟩, .string ⟨#[]⟩, .int .i64 0]), 9, 112) := by kernel_rfl
theorem wpList_it (w : World) {ops : Array Oper} {rest : List Oper} {o : Oper} {a : Act} {Q : Exit → Act → World → Prop}
    (hg : o.guard = none) (s x : Operand) (hop : o.op = Op.call { callee := Callee.builtin Builtin.append, args := #[s, x], argTypes := #[42, 42] })
    (base : Nat) (v : Value) (k : Nat) (xs : List Value) (hs : a.eval s = v) (hown : w.ownsRow base 62 9 v k xs) (ad : Addr) (news : List Value) (hx : a.eval x = .slice (some ad) 1 1) (hn : news.length = 1 * 9)
    (hc : ∀ j u, news[j]? = some u → w.cell? (ad.add j) = some u) (h1c : ∀ u ∈ news, u.oneCell' = true) (hk : k ≤ 1000) (b3 : base ≤ w.heap.size)
    (hK : ∀ g cap w', w'.ownsRow base 62 9 (.slice (some ⟨g, 0, none⟩) (k + 1) cap) (k + 1) (xs ++ news) → w.grownBy w' v.ownBlock → (v.ownBlock = some g ∨ g = w.heap.size) → g < w'.heap.size → wpList Tryz.prog ops Q rest (a.put o.dst (.slice (some ⟨g, 0, none⟩) (k + 1) cap)) w') :
    wpList Tryz.prog ops Q (o :: rest) a w := by
  obtain ⟨i, h2, h3, h4, h5⟩ := info_parts it_info
  exact wpList_append_lies (w := w) hg s x 42 hop base 62 i _ 9 112 Tryz.underlying42 h2 h3 h4 h5 rfl (by decide) v k xs hs hown ad 1 1 news hx hn hc h1c (by decide) (by unfold maxLen; omega) (by omega) b3 w.heap.size rfl hK
theorem nine_at (W : World) (B : Nat) (hB : B = W.heap.size) (x0 x1 x2 x3 x4 x5 x6 x7 x8 : Value) (T : TypeId) (j : Nat) (u : Value) (h : [x0, x1, x2, x3, x4, x5, x6, x7, x8][j]? = some u) : (W.alloc (.cells #[x0, x1, x2, x3, x4, x5, x6, x7, x8] T)).cell? ((⟨B, 0, none⟩ : Addr).add j) = some u := by
  subst hB; exact nine_cells W _ _ _ _ _ _ _ _ _ T j u h
theorem own_keepT {W Y : World} {b : Nat} {T : TypeId} {s : Nat} {v : Value} {n : Nat} {xs : List Value} {B : Nat} (h : W.ownsRow B T s v n xs) (hT : T ≠ 59) (hB : b < B) (hk : RK b W Y) : Y.ownsRow B T s v n xs := by
  refine ⟨h.1, ?_⟩
  rcases h.2 with hn | ⟨g, cap, cur, rfl, hb, hgg, rest⟩
  · exact .inl hn
  · exact .inr ⟨g, cap, cur, rfl, hb, hk.keep g _ hgg (by omega) (.of hT), rest⟩
theorem but_grown {W Y : World} {k : Nat} (h : W.grownBy Y (some k)) : But k W Y := ⟨h.os, h.tape, h.output, h.size, fun j hj hl => h.block j hl (by simpa using hj)⟩
theorem below_grown {W Y : World} (h : W.grownBy Y none) : Below W.heap.size W Y := ⟨h.os, h.tape, h.output, h.size, fun j hj => h.block j hj (by simp)⟩
/-- a row of another type has grown -/
theorem Rd.grownT {W Y : World} {b g cap : Nat} {dv : Value} {ts : List Tok} {xb : Nat → Prop} {σ : RS} (h : Rd W b g cap dv ts xb σ) {B : Nat} {T : TypeId} {s : Nat} {v : Value} {n : Nat} {xs : List Value} (ho : W.ownsRow B T s v n xs) (hB : b < B) (h1 : T ≠ 59) (h2 : T ≠ 3) (hg : W.grownBy Y v.ownBlock) : Rd Y b g cap dv ts xb σ := by
  cases hk : v.ownBlock with
  | none => rw [hk] at hg; exact h.below (below_grown hg)
  | some k =>
    rw [hk] at hg
    obtain ⟨hb, cs, hc⟩ := own_type ho hk
    exact h.but hc h1 h2 (by omega) (but_grown hg)
theorem RK.grownT {b : Nat} {W V Y : World} (h : RK b W V) (hbs : b < W.heap.size) {T : TypeId} {s : Nat} {v : Value} {n : Nat} {xs : List Value} (ho : V.ownsRow W.heap.size T s v n xs) (hg : V.grownBy Y v.ownBlock) : RK b W Y := by
  cases hk : v.ownBlock with
  | none => rw [hk] at hg; exact h.trans (RK.of_below (below_grown hg) (by have := h.size; omega))
  | some k =>
    rw [hk] at hg
    obtain ⟨hb, _⟩ := own_type ho hk
    exact h.but hb (by omega) hbs (but_grown hg)
/-- between two rounds of items -/
structure ItSt (W Y : World) (b g cap : Nat) (dv : Value) (ts : List Tok) (xb : Nat → Prop) (σ : RS) (acc : List It3) (v : Value) : Prop where
  rd : Rd Y b g cap dv ts xb σ
  rk : RK b W Y
  own : Y.ownsRow W.heap.size 62 9 v acc.length (it3C acc)
def ItI (W : World) (b g cap : Nat) (dv : Value) (ts : List Tok) (xb : Nat → Prop) (f : Nat) (R : List It3 × RS) (n : Nat) (x : Value × World) : Prop :=
  ∃ (acc : List It3) (τ : RS), n ≤ f ∧ itemsL ts n acc τ = some R ∧ ItSt W x.2 b g cap dv ts xb τ acc x.1
theorem itemsL_cases {ts : List Tok} {n : Nat} {acc : List It3} {τ : RS} {R : List It3 × RS} (h : itemsL ts n acc τ = some R) : ∃ k, n = k + 1 ∧ acc.length ≤ 1000 ∧
    ((τ.code = 0 ∧ ∃ kk nm p τ', itemG ts τ = some (kk, nm, p, true, τ') ∧ itemsL ts k (acc ++ [(kk, nm, p)]) τ' = some R) ∨ (τ.code = 0 ∧ ∃ kk nm p τ', itemG ts τ = some (kk, nm, p, false, τ') ∧ R = (acc, τ')) ∨ (τ.code ≠ 0 ∧ R = (acc, τ))) := by
  cases n with
  | zero => cases h
  | succ k =>
    simp only [itemsL] at h
    split at h
    · rename_i hl
      refine ⟨k, rfl, hl, ?_⟩
      split at h
      · rename_i hc
        cases hg : itemG ts τ with
        | none => rw [hg] at h; cases h
        | some r =>
          obtain ⟨kk, nm, p, ok, τ'⟩ := r
          rw [hg] at h
          simp only [Option.bind_some] at h
          cases ok with
          | true => exact .inl ⟨hc, kk, nm, p, τ', rfl, by simpa using h⟩
          | false => exact .inr (.inl ⟨hc, kk, nm, p, τ', rfl, by simpa using h.symm⟩)
      · rename_i hc
        exact .inr (.inr ⟨hc, by simpa using h.symm⟩)
    · cases h
def ItsRet (b g cap : Nat) (dv : Value) (ts : List Tok) (xb : Nat → Prop) (W : World) (l : List It3) (σ : RS) (r : Ending) (Y : World) : Prop :=
  ∃ v, r = .returned v ∧ ItSt W Y b g cap dv ts xb σ l v
set_option maxHeartbeats 8000000 in
set_option maxRecDepth 100000 in
theorem items_any (b g cap : Nat) (dv : Value) (ts : List Tok) (xb : Nat → Prop) (σ : RS) (f : Nat) (R : List It3 × RS) (hr : Hid (itemsL ts f [] σ = some R)) (W : World) (h : Hid (Rd W b g cap dv ts xb σ)) :
    Calls Tryz.prog 84 #[.pointer (some ⟨b, 0, none⟩), .bool true] W fun r Y => ItsRet b g cap dv ts xb W R.1 R.2 r Y := by
  obtain ⟨m, hm⟩ := least_of (ItI W b g cap dv ts xb f R)
  have HM := Lib.hid hm
  have hbs := h.out.size
  have HST : Hid (ItSt W W b g cap dv ts xb σ [] (.slice none 0 0)) := Lib.hid ⟨h.out, RK.refl _ _, World.ownsRow_nil _ _ _ _⟩
  clear hm
  go_enter Tryz.func84, Tryz.ntmps84
  go_wp2_with fail
  go_loopw [5] (fun v wr => ∃ o nn c, v = .slice o nn c ∧ Hid (∃ n, ItI W b g cap dv ts xb f R n (v, wr))) (fun v wr => m (v, wr))
  case atStart => exact ⟨_, _, _, rfl, Lib.hid ⟨f, [], σ, Nat.le_refl _, hr.out, HST.out⟩⟩
  case round =>
    obtain ⟨ov, nv, cv, rfl, hI⟩ := hrel
    obtain ⟨hm1, hm2⟩ := HM.out _ hI.out
    obtain ⟨acc, τ, hnf, hrun, hst⟩ := hm1
    obtain ⟨nn, hmn⟩ : ∃ nn, nn = m (.slice ov nv cv, wr) := ⟨_, rfl⟩
    rw [← hmn] at hnf hrun
    obtain ⟨k, rfl, hacc, hcase⟩ := itemsL_cases hrun
    have HST' := Lib.hid hst
    have HMN := Lib.hid hmn
    have HNV : Hid (nv = acc.length) := Lib.hid (by obtain ⟨o', c', e⟩ := own_form hst.own; injection e)
    have hnv : nv ≤ 1000 := by have := HNV.out; omega
    have HRr := Lib.hid hst.rd
    have HKF := Lib.hid hnf
    clear hrun hmn hm2 hI hst hacc hnf
    obtain ⟨o, c, ⟨c0, c1, c3, c4, c5, c6, fr⟩, hx⟩ := HRr.out.cells
    have ht := HRr.out.tok
    have hgb : g ≠ b := by have := HRr.out.lt; omega
    have hl := HRr.out.at_
    have hn := HRr.out.len
    obtain ⟨t0, t1, t2, t3⟩ := ht
    obtain ⟨n, hnn⟩ : ∃ n, n = ts.length := ⟨_, rfl⟩
    obtain ⟨a, haa⟩ : ∃ a, a = τ.at_ := ⟨_, rfl⟩
    obtain ⟨cd, hcd⟩ : ∃ cd, cd = τ.code := ⟨_, rfl⟩
    obtain ⟨ps, hps⟩ : ∃ ps, ps = τ.pos := ⟨_, rfl⟩
    obtain ⟨dp, hdp⟩ : ∃ dp, dp = τ.deep := ⟨_, rfl⟩
    obtain ⟨kd, hkd⟩ : ∃ kd, kd = (tokL ts τ.at_).kind := ⟨_, rfl⟩
    obtain ⟨tx, htx⟩ : ∃ tx, tx = (tokL ts τ.at_).text := ⟨_, rfl⟩
    obtain ⟨tv, htv⟩ : ∃ tv, tv = (tokL ts τ.at_).v := ⟨_, rfl⟩
    obtain ⟨p, hp⟩ : ∃ p, p = (tokL ts τ.at_).at_ := ⟨_, rfl⟩
    rw [← hnn] at c0 hl hn
    rw [← hkd] at t0
    rw [← htx] at t1
    rw [← htv] at t2
    rw [← hp] at t3
    rw [← haa] at c1 t0 t1 t2 t3 hl
    rw [← hcd] at c5
    rw [← hdp] at c4
    rw [← hps] at c6
    have k0 : ((a : Nat) : Int) < (n : Int) := by omega
    have f1 := fr 1
    have f4 := fr 4
    have f5 := fr 5
    have f6 := fr 6
    have HCD := Lib.hid hcd
    have HPS := Lib.hid hps
    have HDP := Lib.hid hdp
    have HKD := Lib.hid hkd
    have HTX := Lib.hid htx
    have HTV := Lib.hid htv
    have HP := Lib.hid hp
    have HAA := Lib.hid haa
    have HNN := Lib.hid hnn
    clear fr hx hnn haa hcd hps hdp hkd htx htv hp c3
    rcases hcase with ⟨hc, kk, nm, p', τ', hg1, hg2⟩ | ⟨hc, kk, nm, p', τ', hg1, hg2⟩ | ⟨hc, hg1⟩
    · have C : Hid (Calls Tryz.prog 120 #[.pointer (some ⟨b, 0, none⟩), .bool true] wr fun r Y => RdRet b g cap dv ts xb wr (.tuple #[.agg #[.int .i64 kk, .string nm, .int .i64 0, .int .i64 0, .int .i64 0, .slice none 0 0, .string ⟨#[]⟩, .string ⟨#[]⟩, .int .i64 p'], .bool true]) τ' r Y) := Lib.hid (item_any b g cap dv ts xb τ kk nm p' true τ' hg1 wr HRr)
      have HG2 := Lib.hid hg2
      have q1 : (cd == 0) = true := by rw [HCD.out, hc]; rfl
      clear hg1 hg2 hc
      go_wp2_with (first
        | (go_at_call 120; (with_reducible refine C.out.mono ?_); rintro e w1 ⟨rfl, hr1, hk1⟩; have HR1 := Lib.hid hr1; have HK1 := Lib.hid hk1; clear hr1 hk1; have HO1 := Lib.hid (own_keepT HST'.out.own (by decide) (by omega) HK1.out); have ws1 := HK1.out.size)
        | (at_builtin; refine wpList_it _ rfl _ _ rfl W.heap.size (.slice ov nv cv) nv (it3C acc) rfl (by have := HO1.out; rw [← HNV.out] at this; exact (this.alloc _).alloc _) ⟨w1.heap.size + 1, 0, none⟩ [.int .i64 kk, .string nm, .int .i64 0, .int .i64 0, .int .i64 0, .slice none 0 0, .string ⟨#[]⟩, .string ⟨#[]⟩, .int .i64 p'] rfl rfl (nine_at (w1.alloc _) _ (by simp) _ _ _ _ _ _ _ _ _ _) (by simp [Value.oneCell']) (by omega) (by have := HST'.out.rk.size; simp; omega) ?_; intro gb cb wb hob hgb' hlb hltb; have HOb := Lib.hid hob; have HGb := Lib.hid hgb'; clear hob hgb' hlb hltb))
      have HO9 := (HO1.out.alloc (.cells #[.int .i64 kk, .string nm, .int .i64 0, .int .i64 0, .int .i64 0, .slice none 0 0, .string ⟨#[]⟩, .string ⟨#[]⟩, .int .i64 p'] 62)).alloc (.cells #[.int .i64 kk, .string nm, .int .i64 0, .int .i64 0, .int .i64 0, .slice none 0 0, .string ⟨#[]⟩, .string ⟨#[]⟩, .int .i64 p'] 62)
      have HK9 := HST'.out.rk.trans (HK1.out.trans (RK.of_below (((Below.refl _ _).alloc (Nat.le_refl _) (.cells #[.int .i64 kk, .string nm, .int .i64 0, .int .i64 0, .int .i64 0, .slice none 0 0, .string ⟨#[]⟩, .string ⟨#[]⟩, .int .i64 p'] 62)).alloc (by simp) (.cells #[.int .i64 kk, .string nm, .int .i64 0, .int .i64 0, .int .i64 0, .slice none 0 0, .string ⟨#[]⟩, .string ⟨#[]⟩, .int .i64 p'] 62)) (Nat.le_of_lt HR1.out.size)))
      have HI : ItI W b g cap dv ts xb f R k (.slice (some ⟨gb, 0, none⟩) (nv + 1) cb, wb) := ⟨acc ++ [(kk, nm, p')], τ', by have := HKF.out; omega, HG2.out, ⟨((HR1.out.alloc _).alloc _).grownT HO9 hbs (by decide) (by decide) HGb.out, HK9.grownT hbs HO9 HGb.out, by
        have h6 := HOb.out
        have h7 := HNV.out
        rw [it3C_snoc, List.length_append, List.length_singleton, ← h7]
        exact h6⟩⟩
      exact ⟨⟨_, _, _, rfl, Lib.hid ⟨k, HI⟩⟩, by have h5 := (HM.out _ ⟨k, HI⟩).2 k HI; have h6 := HMN.out; omega⟩
    · have C : Hid (Calls Tryz.prog 120 #[.pointer (some ⟨b, 0, none⟩), .bool true] wr fun r Y => RdRet b g cap dv ts xb wr (.tuple #[.agg #[.int .i64 kk, .string nm, .int .i64 0, .int .i64 0, .int .i64 0, .slice none 0 0, .string ⟨#[]⟩, .string ⟨#[]⟩, .int .i64 p'], .bool false]) τ' r Y) := Lib.hid (item_any b g cap dv ts xb τ kk nm p' false τ' hg1 wr HRr)
      have HG2 := Lib.hid hg2
      have q1 : (cd == 0) = true := by rw [HCD.out, hc]; rfl
      clear hg1 hg2 hc
      go_wp2_with (go_at_call 120; (with_reducible refine C.out.mono ?_); rintro e w1 ⟨rfl, hr1, hk1⟩; have HR1 := Lib.hid hr1; have HK1 := Lib.hid hk1; clear hr1 hk1; have HO1 := Lib.hid (own_keepT HST'.out.own (by decide) (by omega) HK1.out))
      go_ret
      rw [HG2.out]
      exact ⟨_, rfl, HR1.out.alloc _, HST'.out.rk.trans (HK1.out.trans (RK.of_below ((Below.refl _ _).alloc (Nat.le_refl _) _) (Nat.le_of_lt HR1.out.size))), by have h9 := HO1.out.alloc (.cells #[.int .i64 kk, .string nm, .int .i64 0, .int .i64 0, .int .i64 0, .slice none 0 0, .string ⟨#[]⟩, .string ⟨#[]⟩, .int .i64 p'] 62); exact h9⟩
    · have q1 : (cd == 0) = false := by rw [HCD.out]; exact beq_false_of_ne hc
      have HG2 := Lib.hid hg1
      clear hg1 hc
      go_wp2_with fail
      go_ret
      rw [HG2.out]
      exact ⟨_, rfl, HST'.out.rd, HST'.out.rk, HST'.out.own⟩
end Go.Proofs.YtappngloeieafaaGreat
