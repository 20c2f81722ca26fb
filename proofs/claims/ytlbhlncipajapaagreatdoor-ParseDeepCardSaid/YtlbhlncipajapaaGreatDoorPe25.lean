/- Joined: RdPre. -/
import Derived.Test.YtlbhlncipajapaaGreatDoorPe20
namespace Go.Proofs.YtlbhlncipajapaaGreatDoor
open Go.RowKit Lx

def preA : Array Value := (prefixL.map fun p => Value.string (str p.1)).toArray
def preB : Array Value := (prefixL.map fun p => Value.int .i64 p.2).toArray
theorem cell_at {W : World} {k : Nat} {cs : Array Value} {T : TypeId} {fr : Nat × Nat} (h : W.heap[k]? = some (.cells cs T fr)) {j : Nat} {v : Value} (hv : cs[j]? = some v) : W.cell? ⟨k, j, none⟩ = some v := by simp [World.cell?, h, hv]
theorem pre_at {α : Type} {l : List α} {f : α → Value} {j : Nat} {x : α} (h : l[j]? = some x) : ((l.map f).toArray)[j]? = some (f x) := by rw [List.getElem?_toArray, List.getElem?_map, h]; rfl
theorem NoEx.str {cs : Array Value} : NoEx (.cells cs 9 (0, 0)) := fun cs' h => by cases h
/-- the two lists of Prefix -/
structure PreL (W : World) (A : Nat) : Prop where
  one : W.heap[A]? = some (.cells preA 9 (0, 0))
  two : W.heap[A + 1]? = some (.cells preB 3 (0, 0))
theorem PreL.keep {b A : Nat} {W Y : World} (h : PreL W A) (hk : RK b W Y) (hb : b < A) : PreL Y A := ⟨hk.keep A _ h.one (by omega) .str, hk.keep (A + 1) _ h.two (by omega) .int⟩
theorem PreL.new (w : World) : PreL ((w.alloc (.cells preA 9)).alloc (.cells preB 3)) w.heap.size := by
  refine ⟨?_, ?_⟩
  · rw [heap_alloc_old _ _ (by simp)]; exact heap_alloc_new w _
  · have := heap_alloc_new (w.alloc (.cells preA 9)) (.cells preB 3); rwa [World.size_alloc] at this
theorem prefix_hit {ts : List Tok} {σ : RS} {j : Nat} {p : List UInt8 × Int} (h : prefixL[j]? = some p) (hno : (prefixL.take j).all (fun q => !isS ts q.1 σ) = true) (hp : isS ts p.1 σ = true) : prefixK ts σ prefixL = p.2 := by
  have : prefixL.find? (fun q => isS ts q.1 σ) = some p := by
    have hl := (List.getElem?_eq_some_iff.1 h).1
    have e : prefixL = prefixL.take j ++ p :: prefixL.drop (j + 1) := by
      rw [← (List.getElem?_eq_some_iff.1 h).2]; simp
    rw [e, List.find?_append, List.find?_eq_none.2 (fun x hx => by simpa using List.all_eq_true.1 hno x hx), Option.none_or]
    simp [hp]
  unfold prefixK
  rw [this]
theorem prefix_pos {p : List UInt8 × Int} (h : p ∈ prefixL) : p.2 ≠ 0 ∧ 0 ≤ p.2 ∧ p.2 ≤ 21 := by
  have : ∀ p ∈ prefixL, p.2 ≠ 0 ∧ 0 ≤ p.2 ∧ p.2 ≤ 21 := by decide
  exact this p h
set_option maxHeartbeats 4000000 in
set_option maxRecDepth 100000 in
theorem pre_bad (b g cap : Nat) (dv : Value) (ts : List Tok) (xb : Nat → Prop) (σ : RS) (hok : okS σ = true) (hc : Hid ((enterS ts σ).code ≠ 0)) (W : World) (h : Hid (Rd W b g cap dv ts xb σ)) :
    Calls Tryz.prog 71 #[.pointer (some ⟨b, 0, none⟩)] W fun r Y => RdRet b g cap dv ts xb W (.int .i64 0) (leaveS (enterS ts σ)) r Y := by
  obtain ⟨_, d0, d1⟩ := okS_iff.1 hok
  have hd := enter_deep ts σ
  obtain ⟨d, hdd⟩ : ∃ d, d = (enterS ts σ).deep := ⟨_, rfl⟩
  have dd0 : 0 ≤ d := by omega
  have dd1 : d ≤ 31 := by omega
  have EN : Hid (Calls Tryz.prog 35 #[.pointer (some ⟨b, 0, none⟩)] W fun r Y => RdDeep b g cap dv ts xb W (.bool false) (enterS ts σ) d r Y) := Lib.hid ((enter_any b g cap dv ts xb σ W h d0 d1).mono fun r Y hr => by
    rw [decide_eq_false hc.out] at hr
    exact hr.deep hdd.symm)
  have HD := Lib.hid hdd
  clear hd hdd hok d0 d1
  go_enter Tryz.func71, Tryz.ntmps71
  go_wp2_with (go_at_call 35; (with_reducible refine EN.out.mono ?_); rintro e w1 ⟨rfl, z4, z5, HR, HK⟩)
  go_ret
  rw [HD.out]
  exact ⟨rfl, HR.out.setDeep _, HK.out.trans (RK.set 4 _)⟩
set_option maxHeartbeats 8000000 in
set_option maxRecDepth 100000 in
theorem pre_atom (b g cap : Nat) (dv : Value) (ts : List Tok) (xb : Nat → Prop) (f : Nat) (IH : Hid (FC b g cap dv ts xb f)) (σ x : RS) (hx : Hid (x = enterS ts σ)) (hok : okS σ = true) (hc : Hid (x.code = 0)) (hK : Hid (prefixK ts x prefixL = 0)) (v : Int) (l : List Int) (y : RS)
    (r1 : Hid (runE ts f .atom x = some (v, l, y))) (oky : okS y = true) (W : World) (h : Hid (Rd W b g cap dv ts xb σ)) :
    Calls Tryz.prog 71 #[.pointer (some ⟨b, 0, none⟩)] W fun r Y => RdRet b g cap dv ts xb W (.int .i64 v) (leaveS y) r Y := by
  obtain ⟨_, d0, d1⟩ := okS_iff.1 hok
  obtain ⟨k4, e0, e1⟩ := okS_iff.1 oky
  have EN : Hid (Calls Tryz.prog 35 #[.pointer (some ⟨b, 0, none⟩)] W fun r Y => RdRet b g cap dv ts xb W (.bool true) x r Y) := Lib.hid ((enter_any b g cap dv ts xb σ W h d0 d1).mono fun r Y hr => by
    rwa [← hx.out, decide_eq_true hc.out] at hr)
  have TF := Lib.hid (fun s hs W h => took_false (b := b) (g := g) (cap := cap) (dv := dv) (ts := ts) (xb := xb) (σ := x) s hs W h)
  obtain ⟨d, hdd⟩ : ∃ d, d = y.deep := ⟨_, rfl⟩
  rw [← hdd] at e0 e1
  have AT : Hid (∀ W, Hid (Rd W b g cap dv ts xb x) → Calls Tryz.prog 90 #[.pointer (some ⟨b, 0, none⟩)] W fun r Y => RdDeep b g cap dv ts xb W (.int .i64 v) y d r Y) := Lib.hid fun W h => (IH.out.atom _ _ _ _ hc.out r1.out W h).mono fun r Y hr => hr.deep hdd.symm
  have HNO : Hid (∀ p ∈ prefixL, isS ts p.1 x = false) := Lib.hid (by
    intro p hp
    have hk := hK.out
    unfold prefixK at hk
    cases hf : prefixL.find? fun p => isS ts p.1 x with
    | none => simpa using List.find?_eq_none.1 hf p hp
    | some q => rw [hf] at hk; exact absurd hk (prefix_pos (List.mem_of_find?_eq_some hf)).1)
  have HD := Lib.hid hdd
  clear hdd hok oky d0 d1 k4
  go_enter Tryz.func71, Tryz.ntmps71
  go_wp2_with (go_at_call 35; (with_reducible refine EN.out.mono ?_); rintro e w1 ⟨rfl, hr, hk⟩; have HR := Lib.hid hr; have HK := Lib.hid hk; clear hr hk)
  obtain ⟨o, c, ⟨c0, c1, c3, c4, c5, c6, fr⟩, hx⟩ := HR.out.cells
  have ht := HR.out.tok
  have hgb : g ≠ b := by have := HR.out.lt; omega
  have hl := HR.out.at_
  have hn := HR.out.len
  obtain ⟨t0, t1, t2, t3⟩ := ht
  obtain ⟨n, hnn⟩ : ∃ n, n = ts.length := ⟨_, rfl⟩
  obtain ⟨a, haa⟩ : ∃ a, a = x.at_ := ⟨_, rfl⟩
  obtain ⟨cd, hcd⟩ : ∃ cd, cd = x.code := ⟨_, rfl⟩
  obtain ⟨ps, hps⟩ : ∃ ps, ps = x.pos := ⟨_, rfl⟩
  obtain ⟨dp, hdp⟩ : ∃ dp, dp = x.deep := ⟨_, rfl⟩
  obtain ⟨kd, hkd⟩ : ∃ kd, kd = (tokL ts x.at_).kind := ⟨_, rfl⟩
  obtain ⟨tx, htx⟩ : ∃ tx, tx = (tokL ts x.at_).text := ⟨_, rfl⟩
  obtain ⟨tv, htv⟩ : ∃ tv, tv = (tokL ts x.at_).v := ⟨_, rfl⟩
  obtain ⟨p, hp⟩ : ∃ p, p = (tokL ts x.at_).at_ := ⟨_, rfl⟩
  rw [← hnn] at c0 hl hn
  rw [← hkd] at t0
  rw [← htx] at t1
  rw [← htv] at t2
  rw [← hp] at t3
  rw [← haa] at c1 t0 t1 t2 t3 hl
  rw [← hcd] at c5
  rw [← hdp] at c4
  rw [← hps] at c6
  have k0 : ((a : Nat) : Int) < (n : Int) := by omega
  have f1 := fr 1
  have f4 := fr 4
  have f5 := fr 5
  have f6 := fr 6
  have HCD := Lib.hid hcd
  have HPS := Lib.hid hps
  have HDP := Lib.hid hdp
  have HKD := Lib.hid hkd
  have HTX := Lib.hid htx
  have HTV := Lib.hid htv
  have HP := Lib.hid hp
  have HAA := Lib.hid haa
  have HNN := Lib.hid hnn
  clear fr hx hnn haa hcd hps hdp hkd htx htv hp c3
  go_quiet (fail)
  have HX : Hid (Rd (w1.drewN nq) b g cap dv ts xb x) := Lib.hid (HR.out.below (below_dr (Below.refl _ _) _))
  have HXK : Hid (RK b W (w1.drewN nq)) := Lib.hid (HK.out.trans (RK.of_below (below_dr (Below.refl _ _) _) (Nat.le_of_lt HR.out.size)))
  have hbA : b < w1.heap.size := HR.out.size
  clear HCD HPS HDP HKD HTX HTV HAA HNN
  clear t0 t1 t2 t3 c0 c1 c4 c5 c6 f1 f4 f5 f6 k0 hl hn hgb
  go_wp2_with fail
  change Code.wp _ _ _ _ (((w1.drewN nq).alloc (.cells preA 9)).alloc (.cells preB 3))
  obtain ⟨V, hV⟩ : ∃ V, V = ((w1.drewN nq).alloc (.cells preA 9)).alloc (.cells preB 3) := ⟨_, rfl⟩
  have HPL : Hid (PreL V w1.heap.size) := Lib.hid (by rw [hV]; exact PreL.new (w1.drewN nq))
  have HVX : Hid (Rd V b g cap dv ts xb x) := Lib.hid (by rw [hV]; exact (HX.out.alloc _).alloc _)
  have HVK : Hid (RK b W V) := Lib.hid (by rw [hV]; exact HXK.out.trans (RK.of_below (((Below.refl _ _).alloc (Nat.le_refl _) _).alloc (by simp) _) (Nat.le_of_lt HX.out.size)))
  rw [← hV]
  clear hV
  go_loopw [7, 8] (fun kv i wr => ∃ j : Nat, j ≤ 4 ∧ kv = .int .i64 0 ∧ i = .int .i64 (j : Int) ∧ Hid (Rd wr b g cap dv ts xb x ∧ RK b V wr)) (fun _ i _ => 4 - litLen i)
  case atStart => exact ⟨0, by omega, rfl, rfl, Lib.hid ⟨HVX.out, RK.refl _ _⟩⟩
  case round =>
    obtain ⟨j, hj, rfl, rfl, hI⟩ := hrel
    rcases Nat.lt_or_ge j 4 with hlt | hge
    · have q3 : decide ((j : Int) < 4) = true := decide_eq_true (by omega)
      have jr : (j : Int) < 4 := by omega
      obtain ⟨q, hq⟩ : ∃ q, prefixL[j]? = some q := ⟨prefixL[j]'(by show j < 4; exact hlt), List.getElem?_eq_getElem _⟩
      have hPL := HPL.out.keep hI.out.2 hbA
      have x1 := cell_at hPL.one (pre_at (f := fun p : List UInt8 × Int => Value.string (str p.1)) hq)
      have C := Lib.hid (TF.out q.1 (HNO.out q (List.mem_of_getElem? hq)) wr (Lib.hid hI.out.1))
      clear hPL hq
      go_wp2_with (go_at_call 36; (with_reducible refine C.out.mono ?_); rintro e w2 ⟨rfl, hr, hk⟩; have HR2 := Lib.hid hr; have HK2 := Lib.hid hk; clear hr hk)
      exact ⟨⟨j + 1, by omega, rfl, rfl, Lib.hid ⟨HR2.out, hI.out.2.trans HK2.out⟩⟩, by simp [litLen]; omega⟩
    · have q3 : decide ((j : Int) < 4) = false := decide_eq_false (by omega)
      have C := Lib.hid (AT.out wr (Lib.hid hI.out.1))
      go_wp2_with (go_at_call 90; (with_reducible refine C.out.mono ?_); rintro e w2 ⟨rfl, z4, z5, HR2, HK2⟩)
      go_ret
      rw [HD.out]
      exact ⟨rfl, HR2.out.setDeep _, HVK.out.trans (hI.out.2.trans (HK2.out.trans (RK.set 4 _)))⟩
theorem prefix_index {ts : List Tok} {x : RS} : ∀ (l : List (List UInt8 × Int)), prefixK ts x l ≠ 0 → ∃ (j : Nat) (s : List UInt8), l[j]? = some (s, prefixK ts x l) ∧ isS ts s x = true ∧ ∀ (i : Nat) (q : List UInt8 × Int), i < j → l[i]? = some q → isS ts q.1 x = false
  | [], h => absurd rfl h
  | p :: l, h => by
    cases hp : isS ts p.1 x with
    | true =>
      have e : prefixK ts x (p :: l) = p.2 := by unfold prefixK; rw [List.find?_cons, hp]
      exact ⟨0, p.1, by rw [e]; simp, hp, fun i q hi _ => by omega⟩
    | false =>
      have e : prefixK ts x (p :: l) = prefixK ts x l := by unfold prefixK; rw [List.find?_cons, hp]
      rw [e] at h ⊢
      obtain ⟨j, s, h1, h2, h3⟩ := prefix_index l h
      refine ⟨j + 1, s, by simpa using h1, h2, fun i q hi hq => ?_⟩
      cases i with
      | zero => obtain rfl : p = q := by simpa using hq
                exact hp
      | succ i => exact h3 i q (by omega) (by simpa using hq)
set_option maxHeartbeats 8000000 in
set_option maxRecDepth 100000 in
theorem pre_some (b g cap : Nat) (dv : Value) (ts : List Tok) (xb : Nat → Prop) (f : Nat) (IH : Hid (FC b g cap dv ts xb f)) (σ x : RS) (hx : Hid (x = enterS ts σ)) (hok : okS σ = true) (hc : Hid (x.code = 0)) (K : Int) (hK0 : K ≠ 0) (k0' : 0 ≤ K) (k21 : K ≤ 21) (j0 : Nat) (s0 : List UInt8) (hj0 : j0 < 4) (hs0 : Hid (prefixL[j0]? = some (s0, K))) (hit : Hid (isS ts s0 x = true)) (hno : Hid (∀ i q, i < j0 → prefixL[i]? = some q → isS ts q.1 x = false))
    (v : Int) (l : List Int) (y : RS) (r1 : Hid (runE ts f .pre (stepS x) = some (v, l, y))) (oky : okS y = true) (W : World) (h : Hid (Rd W b g cap dv ts xb σ)) :
    Calls Tryz.prog 71 #[.pointer (some ⟨b, 0, none⟩)] W fun r Y => RdRet b g cap dv ts xb W (.int .i64 (y.exprs.length : Int)) (leaveS (putS { ex0 with kind := K, a := v, pos := ((tokL ts x.at_).at_ : Int) } y)) r Y := by
  obtain ⟨_, d0, d1⟩ := okS_iff.1 hok
  obtain ⟨k4, e0, e1⟩ := okS_iff.1 oky
  have EN : Hid (Calls Tryz.prog 35 #[.pointer (some ⟨b, 0, none⟩)] W fun r Y => RdRet b g cap dv ts xb W (.bool true) x r Y) := Lib.hid ((enter_any b g cap dv ts xb σ W h d0 d1).mono fun r Y hr => by
    rwa [← hx.out, decide_eq_true hc.out] at hr)
  have TF := Lib.hid (fun s hs W h => took_false (b := b) (g := g) (cap := cap) (dv := dv) (ts := ts) (xb := xb) (σ := x) s hs W h)
  obtain ⟨d, hdd⟩ : ∃ d, d = y.deep := ⟨_, rfl⟩
  rw [← hdd] at e0 e1
  have TT := Lib.hid (fun W h => took_true (b := b) (g := g) (cap := cap) (dv := dv) (ts := ts) (xb := xb) (σ := x) s0 hit.out W h)
  have PR := Lib.hid (IH.out.pre _ _ _ _ r1.out)
  have PU : Hid (∀ (p : Nat) W, Hid (Rd W b g cap dv ts xb y) → Calls Tryz.prog 38 #[.pointer (some ⟨b, 0, none⟩), .agg #[.int .i64 K, .int .i64 v, .int .i64 0, .int .i64 0, .string ⟨#[]⟩, .string ⟨#[]⟩, .int .i64 0, .slice none 0 0, .int .i64 (p : Int)]] W fun r Y => RdDeep b g cap dv ts xb W (.int .i64 (y.exprs.length : Int)) (putS { ex0 with kind := K, a := v, pos := (p : Int) } y) d r Y) :=
    Lib.hid fun p W h => (put_any b g cap dv ts xb y { ex0 with kind := K, a := v, pos := (p : Int) } none 0 0 W h k4 (Lib.hid (World.ownsRow_nil _ _ _ _)) (Lib.hid fun k hk => by cases hk)).mono fun r Y hr => hr.deep hdd.symm
  have HD := Lib.hid hdd
  have qK : (K == 0) = false := beq_false_of_ne hK0
  clear hdd hok oky d0 d1 k4 hK0
  go_enter Tryz.func71, Tryz.ntmps71
  go_wp2_with (go_at_call 35; (with_reducible refine EN.out.mono ?_); rintro e w1 ⟨rfl, hr, hk⟩; have HR := Lib.hid hr; have HK := Lib.hid hk; clear hr hk)
  obtain ⟨o, c, ⟨c0, c1, c3, c4, c5, c6, fr⟩, hx⟩ := HR.out.cells
  have ht := HR.out.tok
  have hgb : g ≠ b := by have := HR.out.lt; omega
  have hl := HR.out.at_
  have hn := HR.out.len
  obtain ⟨t0, t1, t2, t3⟩ := ht
  obtain ⟨n, hnn⟩ : ∃ n, n = ts.length := ⟨_, rfl⟩
  obtain ⟨a, haa⟩ : ∃ a, a = x.at_ := ⟨_, rfl⟩
  obtain ⟨cd, hcd⟩ : ∃ cd, cd = x.code := ⟨_, rfl⟩
  obtain ⟨ps, hps⟩ : ∃ ps, ps = x.pos := ⟨_, rfl⟩
  obtain ⟨dp, hdp⟩ : ∃ dp, dp = x.deep := ⟨_, rfl⟩
  obtain ⟨kd, hkd⟩ : ∃ kd, kd = (tokL ts x.at_).kind := ⟨_, rfl⟩
  obtain ⟨tx, htx⟩ : ∃ tx, tx = (tokL ts x.at_).text := ⟨_, rfl⟩
  obtain ⟨tv, htv⟩ : ∃ tv, tv = (tokL ts x.at_).v := ⟨_, rfl⟩
  obtain ⟨p, hp⟩ : ∃ p, p = (tokL ts x.at_).at_ := ⟨_, rfl⟩
  rw [← hnn] at c0 hl hn
  rw [← hkd] at t0
  rw [← htx] at t1
  rw [← htv] at t2
  rw [← hp] at t3
  rw [← haa] at c1 t0 t1 t2 t3 hl
  rw [← hcd] at c5
  rw [← hdp] at c4
  rw [← hps] at c6
  have k0 : ((a : Nat) : Int) < (n : Int) := by omega
  have f1 := fr 1
  have f4 := fr 4
  have f5 := fr 5
  have f6 := fr 6
  have HCD := Lib.hid hcd
  have HPS := Lib.hid hps
  have HDP := Lib.hid hdp
  have HKD := Lib.hid hkd
  have HTX := Lib.hid htx
  have HTV := Lib.hid htv
  have HP := Lib.hid hp
  have HAA := Lib.hid haa
  have HNN := Lib.hid hnn
  clear fr hx hnn haa hcd hps hdp hkd htx htv hp c3
  go_quiet (fail)
  have HX : Hid (Rd (w1.drewN nq) b g cap dv ts xb x) := Lib.hid (HR.out.below (below_dr (Below.refl _ _) _))
  have HXK : Hid (RK b W (w1.drewN nq)) := Lib.hid (HK.out.trans (RK.of_below (below_dr (Below.refl _ _) _) (Nat.le_of_lt HR.out.size)))
  have hbA : b < w1.heap.size := HR.out.size
  clear HCD HPS HDP HKD HTX HTV HAA HNN
  clear t0 t1 t2 t3 c0 c1 c4 c5 c6 f1 f4 f5 f6 k0 hl hn hgb
  go_wp2_with fail
  change Code.wp _ _ _ _ (((w1.drewN nq).alloc (.cells preA 9)).alloc (.cells preB 3))
  obtain ⟨V, hV⟩ : ∃ V, V = ((w1.drewN nq).alloc (.cells preA 9)).alloc (.cells preB 3) := ⟨_, rfl⟩
  have HPL : Hid (PreL V w1.heap.size) := Lib.hid (by rw [hV]; exact PreL.new (w1.drewN nq))
  have HVX : Hid (Rd V b g cap dv ts xb x) := Lib.hid (by rw [hV]; exact (HX.out.alloc _).alloc _)
  have HVK : Hid (RK b W V) := Lib.hid (by rw [hV]; exact HXK.out.trans (RK.of_below (((Below.refl _ _).alloc (Nat.le_refl _) _).alloc (by simp) _) (Nat.le_of_lt HX.out.size)))
  rw [← hV]
  clear hV
  go_loopw [7, 8] (fun kv i wr => ∃ (j : Nat) (k : Int), j ≤ 4 ∧ kv = .int .i64 k ∧ i = .int .i64 (j : Int) ∧ Hid (RK b V wr) ∧ ((j ≤ j0 ∧ k = 0 ∧ Hid (Rd wr b g cap dv ts xb x)) ∨ (j = j0 + 1 ∧ k = K ∧ Hid (Rd wr b g cap dv ts xb (stepS x))))) (fun _ i _ => 4 - litLen i)
  case atStart => exact ⟨0, 0, by omega, rfl, rfl, Lib.hid (RK.refl _ _), .inl ⟨by omega, rfl, HVX⟩⟩
  case round =>
    obtain ⟨j, k, hj, rfl, rfl, hRK, hcase⟩ := hrel
    rcases hcase with ⟨hjj, rfl, hR⟩ | ⟨hjj, rfl, hR⟩
    · have q3 : decide ((j : Int) < 4) = true := decide_eq_true (by omega)
      have jr : (j : Int) < 4 := by omega
      obtain ⟨q, hq⟩ : ∃ q, prefixL[j]? = some q := ⟨prefixL[j]'(by show j < 4; omega), List.getElem?_eq_getElem _⟩
      have hPL := HPL.out.keep hRK.out hbA
      have x1 := cell_at hPL.one (pre_at (f := fun p : List UInt8 × Int => Value.string (str p.1)) hq)
      have HQ := Lib.hid hq
      have HPLr := Lib.hid hPL
      clear hPL hq
      rcases Nat.lt_or_ge j j0 with hlt | hge
      · have C := Lib.hid (TF.out q.1 (hno.out j q hlt HQ.out) wr hR)
        go_wp2_with (go_at_call 36; (with_reducible refine C.out.mono ?_); rintro e w2 ⟨rfl, hr, hk⟩; have HR2 := Lib.hid hr; have HK2 := Lib.hid hk; clear hr hk)
        exact ⟨⟨j + 1, 0, by omega, rfl, rfl, Lib.hid (hRK.out.trans HK2.out), .inl ⟨by omega, rfl, HR2⟩⟩, by simp [litLen]; omega⟩
      · have HJ : Hid (j0 = j) := Lib.hid (by omega)
        have HQQ : Hid (q = (s0, K)) := Lib.hid (by have h1 := HQ.out; have h2 := hs0.out; rw [HJ.out] at h2; rw [h1] at h2; exact Option.some.inj h2)
        rw [HQQ.out] at x1
        dsimp only at x1
        have C : Hid (Calls Tryz.prog 36 #[.pointer (some ⟨b, 0, none⟩), .string (str s0)] wr fun r Y => r = .returned (.bool true) ∧ Y.cell? ⟨w1.heap.size + 1, j, none⟩ = some (.int .i64 K) ∧ Hid (Rd Y b g cap dv ts xb (stepS x)) ∧ Hid (RK b wr Y)) := Lib.hid ((TT.out wr hR).mono fun r Y ⟨e1, e2, e3⟩ => ⟨e1, by
            have hp2 := HPLr.out.keep e3 hbA
            have hq2 := HQ.out
            rw [HQQ.out] at hq2
            exact cell_at hp2.two (pre_at (f := fun p : List UInt8 × Int => Value.int .i64 p.2) hq2), Lib.hid e2, Lib.hid e3⟩)
        go_wp2_with (go_at_call 36; (with_reducible refine C.out.mono ?_); rintro e w2 ⟨rfl, y2, HR2, HK2⟩)
        exact ⟨⟨j + 1, K, by omega, rfl, rfl, Lib.hid (hRK.out.trans HK2.out), .inr ⟨by have := HJ.out; omega, rfl, HR2⟩⟩, by simp [litLen]; omega⟩
    · have C := Lib.hid (PR.out wr hR)
      rcases Nat.lt_or_ge j 4 with hlt | hge
      · have q3 : decide ((j : Int) < 4) = true := decide_eq_true (by omega)
        clear hjj
        go_wp2_with (first
          | (go_at_call 71; (with_reducible refine C.out.mono ?_); rintro e w2 ⟨rfl, hr, hk⟩; have HR2 := Lib.hid hr; have HK2 := Lib.hid hk; clear hr hk)
          | (go_at_call 38; (with_reducible refine (PU.out p w2 HR2).mono ?_); rintro e w8 ⟨rfl, z4, z5, HR8, HK8⟩))
        go_ret
        rw [← HP.out, HD.out]
        exact ⟨rfl, HR8.out.setDeep _, HVK.out.trans (hRK.out.trans (HK2.out.trans (HK8.out.trans (RK.set 4 _))))⟩
      · have q3 : decide ((j : Int) < 4) = false := decide_eq_false (by omega)
        clear hjj
        go_wp2_with (first
          | (go_at_call 71; (with_reducible refine C.out.mono ?_); rintro e w2 ⟨rfl, hr, hk⟩; have HR2 := Lib.hid hr; have HK2 := Lib.hid hk; clear hr hk)
          | (go_at_call 38; (with_reducible refine (PU.out p w2 HR2).mono ?_); rintro e w8 ⟨rfl, z4, z5, HR8, HK8⟩))
        go_ret
        rw [← HP.out, HD.out]
        exact ⟨rfl, HR8.out.setDeep _, HVK.out.trans (hRK.out.trans (HK2.out.trans (HK8.out.trans (RK.set 4 _))))⟩
theorem pre_any (b g cap : Nat) (dv : Value) (ts : List Tok) (xb : Nat → Prop) (f : Nat) (IH : FC b g cap dv ts xb f) (σ : RS) (v : Int) (l : List Int) (τ : RS) (hr : runE ts (f + 1) .pre σ = some (v, l, τ)) (W : World) (h : Hid (Rd W b g cap dv ts xb σ)) :
    Calls Tryz.prog 71 #[.pointer (some ⟨b, 0, none⟩)] W fun r Y => RdRet b g cap dv ts xb W (.int .i64 v) τ r Y := by
  obtain ⟨hok, hcase⟩ := pre_cases hr
  rcases hcase with ⟨hc, e⟩ | ⟨hc, hk, v', l', y, r1, oky, e⟩ | ⟨hc, hk, v', l', y, r1, oky, e⟩
  · cases e
    exact pre_bad b g cap dv ts xb σ hok (Lib.hid hc) W h
  · cases e
    exact pre_atom b g cap dv ts xb f (Lib.hid IH) σ _ (Lib.hid rfl) hok (Lib.hid hc) (Lib.hid hk) v l' y (Lib.hid r1) oky W h
  · obtain ⟨j0, s0, h1, h2, h3⟩ := prefix_index prefixL hk
    have hp := prefix_pos (List.mem_of_getElem? h1)
    have hj : j0 < 4 := (List.getElem?_eq_some_iff.1 h1).1
    cases e
    exact pre_some b g cap dv ts xb f (Lib.hid IH) σ _ (Lib.hid rfl) hok (Lib.hid hc) _ hp.1 hp.2.1 hp.2.2 j0 s0 hj (Lib.hid h1) (Lib.hid h2) (Lib.hid h3) v' l' y (Lib.hid r1) oky W h
end Go.Proofs.YtlbhlncipajapaaGreatDoor
