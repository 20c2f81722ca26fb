/- Joined: RdAtom2, RdArgs, RgKit, CdKit. -/
import Derived.Test.YtlbhlncipajapaaGreatDoorPe21
import Derived.Deep.AppendLies
import Derived.Test.YtlbhlncipajapaaGreatDoorPe20
import Derived.Shelf.RegionOpenPlain
import Derived.Test.YtlbhlncipajapaaGreatDoorPe17
namespace Go.Proofs.YtlbhlncipajapaaGreatDoor
open Go.RowKit Lx

set_option maxHeartbeats 8000000 in
set_option maxRecDepth 100000 in
theorem atom_is (b g cap : Nat) (dv : Value) (ts : List Tok) (xb : Nat → Prop) (σ : RS) (W : World) (h : Hid (Rd W b g cap dv ts xb σ)) (_ : (tokL ts σ.at_).kind ≠ 2) (ht : isS ts [116, 114, 117, 101] σ = false) (hf : isS ts [102, 97, 108, 115, 101] σ = false) (h1 : (tokL ts σ.at_).kind = 1) (hi : isS ts [105, 115] (stepS σ) = true) (ok : okS (nameS ts (stepS (stepS σ))) = true) :
    Calls Tryz.prog 90 #[.pointer (some ⟨b, 0, none⟩)] W fun r Y => RdRet b g cap dv ts xb W (.int .i64 ((nameS ts (stepS (stepS σ))).exprs.length : Int)) (putS { ex0 with kind := 20, name := str (tokL ts σ.at_).text, state := str (nameV ts (stepS (stepS σ))), pos := ((tokL ts σ.at_).at_ : Int) } (nameS ts (stepS (stepS σ)))) r Y := by
  obtain ⟨o, c, ⟨c0, c1, c3, c4, c5, c6, fr⟩, hx⟩ := h.out.cells
  have ht := h.out.tok
  have hgb : g ≠ b := by have := h.out.lt; omega
  have hl := h.out.at_
  have hn := h.out.len
  obtain ⟨t0, t1, t2, t3⟩ := ht
  obtain ⟨n, hnn⟩ : ∃ n, n = ts.length := ⟨_, rfl⟩
  obtain ⟨a, haa⟩ : ∃ a, a = σ.at_ := ⟨_, rfl⟩
  obtain ⟨cd, hcd⟩ : ∃ cd, cd = σ.code := ⟨_, rfl⟩
  obtain ⟨ps, hps⟩ : ∃ ps, ps = σ.pos := ⟨_, rfl⟩
  obtain ⟨dp, hdp⟩ : ∃ dp, dp = σ.deep := ⟨_, rfl⟩
  obtain ⟨kd, hkd⟩ : ∃ kd, kd = (tokL ts σ.at_).kind := ⟨_, rfl⟩
  obtain ⟨tx, htx⟩ : ∃ tx, tx = (tokL ts σ.at_).text := ⟨_, rfl⟩
  obtain ⟨tv, htv⟩ : ∃ tv, tv = (tokL ts σ.at_).v := ⟨_, rfl⟩
  obtain ⟨p, hp⟩ : ∃ p, p = (tokL ts σ.at_).at_ := ⟨_, rfl⟩
  rw [← hnn] at c0 hl hn
  rw [← hkd] at t0
  rw [← htx] at t1
  rw [← htv] at t2
  rw [← hp] at t3
  rw [← haa] at c1 t0 t1 t2 t3 hl
  rw [← hcd] at c5
  rw [← hdp] at c4
  rw [← hps] at c6
  have k0 : ((a : Nat) : Int) < (n : Int) := by omega
  have f1 := fr 1
  have f4 := fr 4
  have f5 := fr 5
  have f6 := fr 6
  have HCD := Lib.hid hcd
  have HPS := Lib.hid hps
  have HDP := Lib.hid hdp
  have HKD := Lib.hid hkd
  have HTX := Lib.hid htx
  have HTV := Lib.hid htv
  have HP := Lib.hid hp
  have HAA := Lib.hid haa
  have HNN := Lib.hid hnn
  clear fr hx hnn haa hcd hps hdp hkd htx htv hp c3
  have hgs : g < W.heap.size := by have := h.out.lt; have := h.out.size; omega
  have hbs : b < W.heap.size := h.out.size
  have ha4 : (a : Int) ≤ 40000 := by omega
  obtain ⟨A, hA⟩ : ∃ A, A = W.heap.size := ⟨_, rfl⟩
  obtain ⟨W1, hW1⟩ : ∃ W1, W1 = (W.alloc (.cells #[.int .i64 (kd : Int), .string (str tx), .int .i64 tv, .int .i64 (p : Int)] 43)).drew := ⟨_, rfl⟩
  have hb1 : Below W.heap.size W W1 := by rw [hW1]; exact ((Below.refl W.heap.size W).alloc (Nat.le_refl _) _).drew
  have HBX : Hid (Box4 W1 A kd tx tv p) := Lib.hid (by rw [hW1, hA]; exact heap_alloc_new W _)
  have HR1 : Hid (Rd W1 b g cap dv ts xb σ) := Lib.hid (h.out.below hb1)
  have HK1 : Hid (RK b W W1) := Lib.hid (RK.of_below hb1 (Nat.le_of_lt hbs))
  have hbA : b ≠ A := by omega
  have q1 := (hb1.cell (p := ⟨b, 1, none⟩) hbs).trans c1
  have qf := (hb1.frozen (p := ⟨b, 1, none⟩) hbs).trans f1
  obtain ⟨x0, x1, x2, x3⟩ := HBX.out.cells
  have HAW := Lib.hid hA
  clear hb1
  have q2 : ((kd : Int) == 2) = false := beq_false_of_ne (by rw [HKD.out, h1]; decide)
  have q1' : ((kd : Int) == 1) = true := by rw [HKD.out, h1]; rfl
  have hk5 : (tokL ts σ.at_).kind ≠ 5 := by rw [h1]; decide
  have TK : Hid (∀ W, Hid (Rd W b g cap dv ts xb σ) → Hid (Box4 W A kd tx tv p) → Calls Tryz.prog 36 #[.pointer (some ⟨b, 0, none⟩), .string ⟨#[116, 114, 117, 101]⟩] W fun r Y => RdBox b g cap dv ts xb A kd tx tv p W (.bool false) σ a r Y) := Lib.hid fun W h hx => (took_false [116, 114, 117, 101] ht W h).mono fun r Y hr => hr.box (by first | exact HAA.out.symm | (rw [HAA.out]; rfl)) hx hbA
  have FK : Hid (∀ W, Hid (Rd W b g cap dv ts xb σ) → Hid (Box4 W A kd tx tv p) → Calls Tryz.prog 36 #[.pointer (some ⟨b, 0, none⟩), .string ⟨#[102, 97, 108, 115, 101]⟩] W fun r Y => RdBox b g cap dv ts xb A kd tx tv p W (.bool false) σ a r Y) := Lib.hid fun W h hx => (took_false [102, 97, 108, 115, 101] hf W h).mono fun r Y hr => hr.box (by first | exact HAA.out.symm | (rw [HAA.out]; rfl)) hx hbA
  have IK : Hid (∀ W, Hid (Rd W b g cap dv ts xb (stepS σ)) → Hid (Box4 W A kd tx tv p) → Calls Tryz.prog 36 #[.pointer (some ⟨b, 0, none⟩), .string ⟨#[105, 115]⟩] W fun r Y => RdBox b g cap dv ts xb A kd tx tv p W (.bool true) (stepS (stepS σ)) (a + 1 + 1) r Y) := Lib.hid fun W h hx => (took_true [105, 115] hi W h).mono fun r Y hr => hr.box (by first | exact HAA.out.symm | (rw [HAA.out]; rfl)) hx hbA
  obtain ⟨τ, hτ⟩ : ∃ τ, τ = nameS ts (stepS (stepS σ)) := ⟨_, rfl⟩
  obtain ⟨NV, hNV⟩ : ∃ NV, NV = str (nameV ts (stepS (stepS σ))) := ⟨_, rfl⟩
  rw [← hτ] at ok
  rw [← hτ, ← hNV]
  have NA : Hid (∀ W, Hid (Rd W b g cap dv ts xb (stepS (stepS σ))) → Hid (Box4 W A kd tx tv p) → Calls Tryz.prog 41 #[.pointer (some ⟨b, 0, none⟩)] W fun r Y => RdBox b g cap dv ts xb A kd tx tv p W (.string NV) τ τ.at_ r Y) := Lib.hid fun W h hx => (name_any b g cap dv ts xb (stepS (stepS σ)) W h).mono fun r Y hr => by
    rw [← hτ, ← hNV] at hr
    exact hr.box rfl hx hbA
  have PU : Hid (∀ W, Hid (Rd W b g cap dv ts xb τ) → Hid (Box4 W A kd tx tv p) → Calls Tryz.prog 38 #[.pointer (some ⟨b, 0, none⟩), .agg #[.int .i64 20, .int .i64 0, .int .i64 0, .int .i64 0, .string (str tx), .string NV, .int .i64 0, .slice none 0 0, .int .i64 (p : Int)]] W fun r Y => RdBox b g cap dv ts xb A kd tx tv p W (.int .i64 (τ.exprs.length : Int)) (putS { ex0 with kind := 20, name := str tx, state := NV, pos := (p : Int) } τ) τ.at_ r Y) :=
    Lib.hid fun W h hx => (put_any b g cap dv ts xb τ { ex0 with kind := 20, name := str tx, state := NV, pos := (p : Int) } none 0 0 W h (okS_iff.1 ok).1 (Lib.hid (World.ownsRow_nil _ _ _ _)) (Lib.hid fun k hk => by cases hk)).mono fun r Y hr => hr.box rfl hx hbA
  clear ok ht hf h1 hi hτ hNV
  go_enter Tryz.func90, Tryz.ntmps90
  go_wp2_with fail
  go_region_held3 (fun w' => w'.cell? ⟨b, 0, none⟩ = some (.slice (some ⟨g, 0, none⟩) n cap) ∧ w'.cell? ⟨b, 1, none⟩ = some (.int .i64 (a : Int)) ∧ w'.cell? ⟨g, a * 4, none⟩ = some (.int .i64 (kd : Int)) ∧ w'.cell? ⟨g, a * 4 + 1, none⟩ = some (.string (str tx)) ∧ w'.cell? ⟨g, a * 4 + 2, none⟩ = some (.int .i64 tv) ∧ w'.cell? ⟨g, a * 4 + 3, none⟩ = some (.int .i64 (p : Int)))
    ((repeat' apply And.intro) <;> first | assumption | go_keep)
    (fail)
  rw [← hW1, ← hA]
  clear hW1 hA t0 t1 t2 t3 c0 c1 c4 c5 c6 f1 f4 f5 f6 k0 hgs
  go_wp2_with (first
    | (go_at_call 36; (with_reducible refine (TK.out W1 HR1 HBX).mono ?_); rintro e w2 ⟨rfl, y0, y1, y3, yb, yf, HR2, HK2, HX2⟩)
    | (go_at_call 36; (with_reducible refine (FK.out w2 HR2 HX2).mono ?_); rintro e w3 ⟨rfl, y0, y1, y3, yb, yf, HR3, HK3, HX3⟩)
    | (go_at_call 36; (with_reducible refine (IK.out _ (rd_step HR3 hk5 HAA) (box_step HX3 hbA _)).mono ?_); rintro e w4 ⟨rfl, y0, y1, y3, yb, yf, HR4, HK4, HX4⟩))
  go_region_held3 (fun w' => w'.cell? ⟨A, 1, none⟩ = some (.string (str tx)) ∧ w'.cell? ⟨A, 3, none⟩ = some (.int .i64 (p : Int)))
    ((repeat' apply And.intro) <;> first | assumption | go_keep)
    (first
    | (go_at_call 41; (with_reducible refine (NA.out _ (rd_drew HR4) (box_drew HX4)).mono ?_); rintro e w5 ⟨rfl, z0, z1, z3, zb, zf, HR5, HK5, HX5⟩)
    | (go_at_call 38; (with_reducible refine (PU.out w5 HR5 HX5).mono ?_); rintro e w6 ⟨rfl, u0, u1, u3, ub, uf, HR6, HK6, HX6⟩))
  go_wp2_with fail
  go_ret
  rw [← HP.out, ← HTX.out]
  exact ⟨rfl, HR6.out, HK1.out.trans (HK2.out.trans (HK3.out.trans ((RK.set 1 _).trans (HK4.out.trans ((RK.of_below (Below.refl _ _).drew (Nat.le_of_lt HR4.out.size)).trans (HK5.out.trans HK6.out))))))⟩
end Go.Proofs.YtlbhlncipajapaaGreatDoor
namespace Go.Proofs.YtlbhlncipajapaaGreatDoor
open Go.RowKit Lx

/-- arguments so far, in a row of their own; the reader beside them -/
structure ArgSt (Y : World) (b g cap : Nat) (dv : Value) (ts : List Tok) (xb : Nat → Prop) (A : Nat) (τ : RS) (acc : List Int) (v : Value) : Prop where
  own : Y.ownsRow (A + 1) 3 1 v acc.length (acc.map intC)
  rd : Rd Y b g cap dv ts (fun k => xb k ∨ v.ownBlock = some k) τ
theorem Rd.less {W : World} {b g cap : Nat} {dv : Value} {ts : List Tok} {xb yb : Nat → Prop} {σ : RS} (h : Rd W b g cap dv ts xb σ) (hy : ∀ k, yb k → xb k) : Rd W b g cap dv ts yb σ := by
  obtain ⟨o, c, h1, q, h2, h3, h4⟩ := h.blk
  exact ⟨fun k hk => h.xlt k (hy k hk), ⟨o, c, h1, q, h2, h3, fun p hp => ⟨(h4 p hp).1, fun k hk hyk => (h4 p hp).2 k hk (hy k hyk)⟩⟩, h.row, h.lt, h.at_, h.len, h.ends⟩
theorem Rd.more {W : World} {b g cap : Nat} {dv : Value} {ts : List Tok} {xb yb : Nat → Prop} {σ : RS} (h : Rd W b g cap dv ts xb σ) (hy : ∀ k, yb k → xb k ∨ False) : Rd W b g cap dv ts yb σ := h.less fun k hk => (hy k hk).resolve_right id
theorem own_base {W : World} {B B' : Nat} {e : TypeId} {s : Nat} {v : Value} {n : Nat} {xs : List Value} (h : W.ownsRow B e s v n xs) (hb : B' ≤ B) : W.ownsRow B' e s v n xs := by
  refine ⟨h.1, ?_⟩
  rcases h.2 with hn | ⟨g, cap, cur, rfl, hb2, rest⟩
  · exact .inl hn
  · exact .inr ⟨g, cap, cur, rfl, Nat.le_trans hb hb2, rest⟩
theorem ArgSt.call {W Y : World} {b g cap : Nat} {dv : Value} {ts : List Tok} {xb : Nat → Prop} {A : Nat} {τ σ : RS} {acc : List Int} {v : Value} (h : ArgSt W b g cap dv ts xb A τ acc v) (hbA : b < A + 1) (hr : Rd Y b g cap dv ts (fun k => xb k ∨ v.ownBlock = some k) σ) (hk : RK b W Y) : ArgSt Y b g cap dv ts xb A σ acc v :=
  ⟨own_keep h.own hbA hk, hr⟩
theorem ArgSt.push {X Y : World} {b g cap : Nat} {dv : Value} {ts : List Tok} {xb : Nat → Prop} {A : Nat} {τ : RS} {acc : List Int} {v : Value} {n : Int} {g' c' : Nat} (h : ArgSt X b g cap dv ts xb A τ acc v) (hbA : b < A + 1)
    (hg : X.grownBy Y v.ownBlock) (ho : Y.ownsRow (A + 1) 3 1 (.slice (some ⟨g', 0, none⟩) (acc.length + 1) c') (acc.length + 1) (acc.map intC ++ [.int .i64 n])) (hl : v.ownBlock = some g' ∨ g' = X.heap.size) (hlt : g' < Y.heap.size) :
    ArgSt Y b g cap dv ts xb A τ (acc ++ [n]) (.slice (some ⟨g', 0, none⟩) (acc.length + 1) c') := by
  have hbs := h.rd.size
  have hgs : g < X.heap.size := by have := h.rd.lt; omega
  have hne : ∀ k, k < A + 1 → some k ≠ v.ownBlock := fun k hk e => by have := (h.own.lt k e.symm).1; omega
  obtain ⟨o, c, h1, q, h2, h3, h4⟩ := h.rd.blk
  refine ⟨by rw [List.length_append, List.map_append]; exact ho, ⟨fun k hk => ?_, ⟨o, c, (hg.block b hbs (hne b hbA)).trans h1, q, h2, ?_, fun p hp => ⟨?_, ?_⟩⟩, row_low h.rd.row (hg.block g hgs (hne g (by have := h.rd.lt; omega))), h.rd.lt, h.rd.at_, h.rd.len, h.rd.ends⟩⟩
  · rcases hk with hk | hk
    · exact Nat.lt_of_lt_of_le (h.rd.xlt k (.inl hk)) hg.size
    · simp [Value.ownBlock] at hk; omega
  · refine rd_own_same h3 fun k e => hg.block k (h3.lt k e).2 fun e2 => ?_
    rcases h3.2 with ⟨h5, _⟩ | ⟨g3, c3, cur3, h5, _, h6, _⟩
    · rw [h5] at e; cases e
    · rcases h.own.2 with ⟨h7, _⟩ | ⟨g4, c4, cur4, h7, _, h8, _⟩
      · rw [h7] at e2; cases e2
      · rw [h5] at e; rw [h7] at e2
        simp [Value.ownBlock] at e e2
        subst e; subst e2
        rw [h6] at h8; cases h8
  · exact rd_own_same (h4 p hp).1 fun k e => hg.block k ((h4 p hp).1.lt k e).2 fun e2 => (h4 p hp).2 k e (.inr e2.symm)
  · intro k e hk
    rcases hk with hk | hk
    · exact (h4 p hp).2 k e (.inl hk)
    · simp [Value.ownBlock] at hk
      rcases hl with hl | hl
      · exact (h4 p hp).2 k e (.inr (by rw [hl, hk]))
      · have := ((h4 p hp).1.lt k e).2; omega
theorem RK.grow_new {b : Nat} {W X Y : World} {row : Option Nat} (h : RK b W X) (hg : X.grownBy Y row) (hb : b ≤ W.heap.size) (hr : ∀ k, row = some k → W.heap.size ≤ k) : RK b W Y :=
  ⟨hg.os.trans h.os, hg.tape.trans h.tape, hg.output.trans h.output, Nat.le_trans h.size hg.size, fun k hk => (hg.block k (by have := h.size; omega) (fun e => by have := hr k e.symm; omega)).trans (h.low k hk),
    fun k o hk hkb hno => (hg.block k (by have := h.size; have := heap_lt hk; omega) (fun e => by have := hr k e.symm; have := heap_lt hk; omega)).trans (h.keep k o hk hkb hno)⟩
theorem args_cases {ts : List Tok} {n : Nat} {acc : List Int} {σ : RS} {R : Int × List Int × RS} (h : runE ts n (.args acc) σ = some R) : ∃ m, n = m + 1 ∧ acc.length ≤ 40000 ∧
    ((isS ts [44] σ = true ∧ ∃ v l τ, runE ts m .expr (stepS σ) = some (v, l, τ) ∧ runE ts m (.args (acc ++ [v])) τ = some R) ∨ (isS ts [44] σ = false ∧ R = (0, acc, σ))) := by
  cases n with
  | zero => cases h
  | succ m =>
    refine ⟨m, rfl, ?_⟩
    simp only [runE] at h
    split at h
    · unfold argsG at h
      split at h
      · rename_i hl
        refine ⟨hl, ?_⟩
        split at h
        · rename_i hi
          cases h1 : runE ts m .expr (stepS σ) with
          | none => rw [h1] at h; cases h
          | some q =>
            rw [h1] at h
            exact .inl ⟨hi, q.1, q.2.1, q.2.2, rfl, h⟩
        · rename_i hi
          exact .inr ⟨by simpa using hi, (Option.some.inj h).symm⟩
      · cases h
    · cases h
theorem rd_int_info : (Tryz.prog.info? 3).map (fun i => (i.zero, i.size, i.bytes)) = some (some (.int .i64 0), 1, 8) := by kernel_rfl
theorem one_cell (W : World) (v : Value) (T : TypeId) (j : Nat) (u : Value) (h : [v][j]? = some u) : (W.alloc (.cells #[v] T)).cell? ((⟨W.heap.size, 0, none⟩ : Addr).add j) = some u := by
  have e : (⟨W.heap.size, 0, none⟩ : Addr).add j = ⟨W.heap.size, j, none⟩ := by unfold Addr.add; split <;> simp_all
  rw [e, World.cell?_alloc_new, ← h, ← Array.getElem?_toList]
/-- one number is laid behind the others -/
theorem wpList_arg (w : World) {ops : Array Oper} {rest : List Oper} {o : Oper} {a : Act} {Q : Exit → Act → World → Prop}
    (hg : o.guard = none) (s x : Operand) (hop : o.op = Op.call { callee := Callee.builtin Builtin.append, args := #[s, x], argTypes := #[44, 44] })
    (base : Nat) (v : Value) (k : Nat) (xs : List Value) (hs : a.eval s = v) (hown : w.ownsRow base 3 1 v k xs) (ad : Addr) (news : List Value) (hx : a.eval x = .slice (some ad) 1 1) (hn : news.length = 1 * 1)
    (hc : ∀ j u, news[j]? = some u → w.cell? (ad.add j) = some u) (h1c : ∀ u ∈ news, u.oneCell' = true) (hk : k ≤ 40000) (b3 : base ≤ w.heap.size)
    (hK : ∀ g cap w', w'.ownsRow base 3 1 (.slice (some ⟨g, 0, none⟩) (k + 1) cap) (k + 1) (xs ++ news) → w.grownBy w' v.ownBlock → (v.ownBlock = some g ∨ g = w.heap.size) → g < w'.heap.size → wpList Tryz.prog ops Q rest (a.put o.dst (.slice (some ⟨g, 0, none⟩) (k + 1) cap)) w') :
    wpList Tryz.prog ops Q (o :: rest) a w := by
  obtain ⟨i, h2, h3, h4, h5⟩ := info_parts rd_int_info
  exact wpList_append_lies (w := w) hg s x 44 hop base 3 i _ 1 8 Tryz.underlying44 h2 h3 h4 h5 rfl (by decide) v k xs hs hown ad 1 1 news hx hn hc h1c (by decide) (by unfold maxLen; omega) (by omega) b3 w.heap.size rfl hK
/-- .. and the token's box, and what was kept since the call began -/
structure ArgAll (W Y : World) (b g cap : Nat) (dv : Value) (ts : List Tok) (xb : Nat → Prop) (A kd : Nat) (tx : List UInt8) (tv : Int) (p : Nat) (τ : RS) (acc : List Int) (v : Value) : Prop where
  st : ArgSt Y b g cap dv ts xb A τ acc v
  box : Box4 Y A kd tx tv p
  rk : RK b W Y
theorem ArgAll.call {W X Y : World} {b g cap : Nat} {dv : Value} {ts : List Tok} {xb : Nat → Prop} {A kd : Nat} {tx : List UInt8} {tv : Int} {p : Nat} {τ σ : RS} {acc : List Int} {v : Value} (h : ArgAll W X b g cap dv ts xb A kd tx tv p τ acc v) (hbA : b < A)
    (hr : Rd Y b g cap dv ts (fun k => xb k ∨ v.ownBlock = some k) σ) (hk : RK b X Y) : ArgAll W Y b g cap dv ts xb A kd tx tv p σ acc v :=
  ⟨h.st.call (by omega) hr hk, h.box.keep hk (by omega), h.rk.trans hk⟩
theorem ArgAll.push {W X Y : World} {b g cap : Nat} {dv : Value} {ts : List Tok} {xb : Nat → Prop} {A kd : Nat} {tx : List UInt8} {tv : Int} {p : Nat} {τ : RS} {acc : List Int} {v : Value} {n : Int} {g' c' : Nat} (h : ArgAll W X b g cap dv ts xb A kd tx tv p τ acc v) (hbA : b < A) (hA : A = W.heap.size)
    (hg : (X.alloc (.cells #[.int .i64 n] 3)).grownBy Y v.ownBlock) (ho : Y.ownsRow (A + 1) 3 1 (.slice (some ⟨g', 0, none⟩) (acc.length + 1) c') (acc.length + 1) (acc.map intC ++ [.int .i64 n]))
    (hl : v.ownBlock = some g' ∨ g' = (X.alloc (.cells #[.int .i64 n] 3)).heap.size) (hlt : g' < Y.heap.size) : ArgAll W Y b g cap dv ts xb A kd tx tv p τ (acc ++ [n]) (.slice (some ⟨g', 0, none⟩) (acc.length + 1) c') := by
  have hb0 : Below X.heap.size X (X.alloc (.cells #[.int .i64 n] 3)) := (Below.refl _ _).alloc (Nat.le_refl _) _
  have hk0 : RK b X (X.alloc (.cells #[.int .i64 n] 3)) := RK.of_below hb0 (Nat.le_of_lt h.st.rd.size)
  have h2 := h.call hbA (h.st.rd.below hb0) hk0
  have hxA : A < (X.alloc (.cells #[.int .i64 n] 3)).heap.size := heap_lt h2.box
  exact ⟨h2.st.push (by omega) hg ho hl hlt, (hg.block A hxA fun e => by have := (h2.st.own.lt A e.symm).1; omega).trans h2.box, h2.rk.grow_new hg (by omega) fun k e => by have := (h2.st.own.lt k e).1; omega⟩
theorem own_form {W : World} {B : Nat} {e : TypeId} {s : Nat} {v : Value} {n : Nat} {xs : List Value} (h : W.ownsRow B e s v n xs) : ∃ o c, v = .slice o n c := by
  rcases h.2 with ⟨rfl, rfl⟩ | ⟨g, cap, cur, rfl, _⟩
  · exact ⟨none, 0, rfl⟩
  · exact ⟨_, cap, rfl⟩
end Go.Proofs.YtlbhlncipajapaaGreatDoor
namespace Go.Proofs.YtlbhlncipajapaaGreatDoor
open Go.RowKit Lx
set_option linter.unusedVariables false

theorem NoEx.of {T : TypeId} (h : T ≠ 46) {cs : Array Value} : NoEx (.cells cs T (0, 0)) := fun cs' e => by cases e; exact h rfl
theorem own_type {W : World} {B : Nat} {e : TypeId} {s : Nat} {v : Value} {n : Nat} {xs : List Value} (h : W.ownsRow B e s v n xs) {k : Nat} (hk : v.ownBlock = some k) : B ≤ k ∧ ∃ cs, W.heap[k]? = some (.cells cs e (0, 0)) := by
  rcases h.2 with ⟨rfl, _⟩ | ⟨g, cap, cur, rfl, hb, hg, _⟩
  · cases hk
  · obtain rfl : g = k := by simpa [Value.ownBlock] using hk
    exact ⟨hb, cur, hg⟩
/-- a store into a box of another type -/
theorem Rd.setBox {W : World} {b g cap : Nat} {dv : Value} {ts : List Tok} {xb : Nat → Prop} {σ : RS} (h : Rd W b g cap dv ts xb σ) {A : Nat} {cs : Array Value} {T : TypeId} {fr : Nat × Nat} (hA : W.heap[A]? = some (.cells cs T fr)) (h1 : T ≠ 46) (h2 : T ≠ 3) (hb : b < A) (i : Nat) (v : Value) : Rd (W.setCell ⟨A, i, none⟩ v) b g cap dv ts xb σ := by
  have sm : ∀ k, k ≠ A → (W.setCell ⟨A, i, none⟩ v).heap[k]? = W.heap[k]? := fun k hk => Below.heap_setCell W ⟨A, i, none⟩ v k (by simpa using hk)
  obtain ⟨o, c, hc, q, q1, q2, q3⟩ := h.blk
  refine ⟨fun k hk => Nat.lt_of_lt_of_le (h.xlt k hk) ((Below.refl A W).setCell (p := ⟨A, i, none⟩) (Nat.le_refl _) v).size, ⟨o, c, (sm b (by omega)).trans hc, q, q1, rd_own_same q2 fun k e => sm k ?_, fun p hp => ⟨rd_own_same (q3 p hp).1 fun k e => sm k ?_, (q3 p hp).2⟩⟩, row_low h.row (sm g (by have := h.lt; omega)), h.lt, h.at_, h.len, h.ends⟩
  · rintro rfl
    obtain ⟨_, cs', hk⟩ := own_type q2 e
    rw [hA] at hk; cases hk; exact h1 rfl
  · rintro rfl
    obtain ⟨_, cs', hk⟩ := own_type (q3 p hp).1 e
    rw [hA] at hk; cases hk; exact h2 rfl
theorem RK.setNew {b : Nat} {W Y : World} (h : RK b W Y) {A : Nat} (hA : W.heap.size ≤ A) (hb : b < A) (i : Nat) (v : Value) : RK b W (Y.setCell ⟨A, i, none⟩ v) := by
  have hs := (Below.refl A Y).setCell (p := ⟨A, i, none⟩) (Nat.le_refl _) v
  exact ⟨hs.os.trans h.os, hs.tape.trans h.tape, hs.output.trans h.output, Nat.le_trans h.size hs.size, fun k hk => (hs.block k (by omega)).trans (h.low k hk), fun k o hk hkb hn => (hs.block k (by have := heap_lt hk; omega)).trans (h.keep k o hk hkb hn)⟩
/-- all that lay there but block A -/
structure But (A : Nat) (W Y : World) : Prop where
  os : Y.os = W.os
  tape : Y.tape = W.tape
  output : Y.output = W.output
  size : W.heap.size ≤ Y.heap.size
  block : ∀ k, k ≠ A → k < W.heap.size → Y.heap[k]? = W.heap[k]?
theorem But.refl (A : Nat) (W : World) : But A W W := ⟨rfl, rfl, rfl, Nat.le_refl _, fun _ _ _ => rfl⟩
theorem But.set {A : Nat} {W Y : World} (h : But A W Y) (i : Nat) (v : Value) : But A W (Y.setCell ⟨A, i, none⟩ v) := by
  have hs := (Below.refl A Y).setCell (p := ⟨A, i, none⟩) (Nat.le_refl _) v
  exact ⟨hs.os.trans h.os, hs.tape.trans h.tape, hs.output.trans h.output, Nat.le_trans h.size hs.size, fun k hk hl => (Below.heap_setCell Y ⟨A, i, none⟩ v k (by simpa using hk)).trans (h.block k hk hl)⟩
theorem But.drew {A : Nat} {W Y : World} (h : But A W Y) : But A W Y.drew := ⟨h.os, h.tape, h.output, h.size, h.block⟩
theorem Rd.but {W Y : World} {b g cap : Nat} {dv : Value} {ts : List Tok} {xb : Nat → Prop} {σ : RS} (h : Rd W b g cap dv ts xb σ) {A : Nat} {cs : Array Value} {T : TypeId} {fr : Nat × Nat} (hA : W.heap[A]? = some (.cells cs T fr)) (h1 : T ≠ 46) (h2 : T ≠ 3) (hb : b < A) (hy : But A W Y) : Rd Y b g cap dv ts xb σ := by
  have hs := h.size
  obtain ⟨o, c, hc, q, q1, q2, q3⟩ := h.blk
  refine ⟨fun k hk => Nat.lt_of_lt_of_le (h.xlt k hk) hy.size, ⟨o, c, (hy.block b (by omega) hs).trans hc, q, q1, rd_own_same q2 fun k e => hy.block k ?_ (q2.lt k e).2, fun p hp => ⟨rd_own_same (q3 p hp).1 fun k e => hy.block k ?_ ((q3 p hp).1.lt k e).2, (q3 p hp).2⟩⟩, row_low h.row (hy.block g (by have := h.lt; omega) (by have := h.lt; omega)), h.lt, h.at_, h.len, h.ends⟩
  · rintro rfl
    obtain ⟨_, cs', hk⟩ := own_type q2 e
    rw [hA] at hk; cases hk; exact h1 rfl
  · rintro rfl
    obtain ⟨_, cs', hk⟩ := own_type (q3 p hp).1 e
    rw [hA] at hk; cases hk; exact h2 rfl
theorem RK.but {b : Nat} {W V Y : World} (h : RK b W V) {A : Nat} (hA : W.heap.size ≤ A) (hb : b < A) (hbs : b < W.heap.size) (hy : But A V Y) : RK b W Y :=
  ⟨hy.os.trans h.os, hy.tape.trans h.tape, hy.output.trans h.output, Nat.le_trans h.size hy.size, fun k hk => (hy.block k (by omega) (by have := h.size; omega)).trans (h.low k hk), fun k o hk hkb hn => by
    have := heap_lt hk
    exact (hy.block k (by omega) (by have := h.size; omega)).trans (h.keep k o hk hkb hn)⟩
theorem tok_kind {ts : List Tok} {s : List UInt8} {σ : RS} (h : isS ts s σ = true) : (tokL ts σ.at_).kind ≠ 5 := (isS_kind h).1
theorem own_keepT {W Y : World} {b : Nat} {T : TypeId} {s : Nat} {v : Value} {n : Nat} {xs : List Value} {B : Nat} (h : W.ownsRow B T s v n xs) (hT : T ≠ 46) (hB : b < B) (hk : RK b W Y) : Y.ownsRow B T s v n xs := by
  refine ⟨h.1, ?_⟩
  rcases h.2 with hn | ⟨g, cap, cur, rfl, hb, hgg, rest⟩
  · exact .inl hn
  · exact .inr ⟨g, cap, cur, rfl, hb, hk.keep g _ hgg (by omega) (.of hT), rest⟩
theorem but_grown {W Y : World} {k : Nat} (h : W.grownBy Y (some k)) : But k W Y := ⟨h.os, h.tape, h.output, h.size, fun j hj hl => h.block j hl (by simpa using hj)⟩
theorem below_grown {W Y : World} (h : W.grownBy Y none) : Below W.heap.size W Y := ⟨h.os, h.tape, h.output, h.size, fun j hj => h.block j hj (by simp)⟩
/-- a row of another type has grown -/
theorem Rd.grownT {W Y : World} {b g cap : Nat} {dv : Value} {ts : List Tok} {xb : Nat → Prop} {σ : RS} (h : Rd W b g cap dv ts xb σ) {B : Nat} {T : TypeId} {s : Nat} {v : Value} {n : Nat} {xs : List Value} (ho : W.ownsRow B T s v n xs) (hB : b < B) (h1 : T ≠ 46) (h2 : T ≠ 3) (hg : W.grownBy Y v.ownBlock) : Rd Y b g cap dv ts xb σ := by
  cases hk : v.ownBlock with
  | none => rw [hk] at hg; exact h.below (below_grown hg)
  | some k =>
    rw [hk] at hg
    obtain ⟨hb, cs, hc⟩ := own_type ho hk
    exact h.but hc h1 h2 (by omega) (but_grown hg)
theorem RK.grownT {b : Nat} {W V Y : World} (h : RK b W V) (hbs : b < W.heap.size) {T : TypeId} {s : Nat} {v : Value} {n : Nat} {xs : List Value} (ho : V.ownsRow W.heap.size T s v n xs) (hg : V.grownBy Y v.ownBlock) : RK b W Y := by
  cases hk : v.ownBlock with
  | none => rw [hk] at hg; exact h.trans (RK.of_below (below_grown hg) (by have := h.size; omega))
  | some k =>
    rw [hk] at hg
    obtain ⟨hb, _⟩ := own_type ho hk
    exact h.but hb (by omega) hbs (but_grown hg)
/-- the outermost piece of the code that begins with the region of this number -/
noncomputable def headR : Code → Option Nat
  | .region i _ _ => some i
  | .seq a _ => headR a
  | .block _ a => headR a
  | _ => none
noncomputable def sqh (n : Nat) : Code → Option Code
  | .seq a b => if headR a = some n then some (.seq a b) else match sqh n a with
    | some c => some c
    | none => sqh n b
  | .cond _ a b => match sqh n a with
    | some c => some c
    | none => sqh n b
  | .block _ c => sqh n c
  | .loop c => sqh n c
  | _ => none
noncomputable def sqhOf (f : Func) (n : Nat) : Code := match sqh n (match f.body with | some c => c | none => .skip) with
  | some c => c
  | none => .skip
/-- an item's cells, its states at sv -/
def itC (x : It) (sv : Value) : Array Value := #[.int .i64 x.kind, .string x.name, .int .i64 x.type, .int .i64 x.e, .int .i64 x.f, sv, .string x.state, .string x.next, .int .i64 x.pos]
def itZ : Array Value := #[.int .i64 0, .string ⟨#[]⟩, .int .i64 0, .int .i64 0, .int .i64 0, .slice none 0 0, .string ⟨#[]⟩, .string ⟨#[]⟩, .int .i64 0]
/-- between two steps of an item: the result's box A is empty, the box behind it is the item's -/
structure IB (W0 Y : World) (b g cap : Nat) (dv : Value) (ts : List Tok) (xb : Nat → Prop) (σ : RS) (A : Nat) (c : Array Value) : Prop where
  rd : Rd Y b g cap dv ts xb σ
  rk : RK b W0 Y
  zero : Y.heap[A]? = some (.cells itZ 65 (0, 0))
  box : Y.heap[A + 1]? = some (.cells c 65 (0, 0))
  hA : W0.heap.size ≤ A
  hb : b < W0.heap.size
theorem IB.call {W0 Y Z : World} {b g cap : Nat} {dv : Value} {ts : List Tok} {xb : Nat → Prop} {σ τ : RS} {A : Nat} {c : Array Value} (h : IB W0 Y b g cap dv ts xb σ A c) (hr : Rd Z b g cap dv ts xb τ) (hk : RK b Y Z) : IB W0 Z b g cap dv ts xb τ A c :=
  ⟨hr, h.rk.trans hk, hk.keep A _ h.zero (by have := h.hA; have := h.hb; omega) (.of (by decide)), hk.keep (A + 1) _ h.box (by have := h.hA; have := h.hb; omega) (.of (by decide)), h.hA, h.hb⟩
theorem IB.set {W0 Y : World} {b g cap : Nat} {dv : Value} {ts : List Tok} {xb : Nat → Prop} {σ : RS} {A : Nat} {c : Array Value} (h : IB W0 Y b g cap dv ts xb σ A c) (i : Nat) (v : Value) {c' : Array Value} (he : c.setIfInBounds i v = c') : IB W0 (Y.setCell ⟨A + 1, i, none⟩ v) b g cap dv ts xb σ A c' :=
  ⟨h.rd.setBox h.box (by decide) (by decide) (by have := h.hA; have := h.hb; omega) i v, h.rk.setNew (by have := h.hA; omega) (by have := h.hA; have := h.hb; omega) i v, (Below.heap_setCell Y ⟨A + 1, i, none⟩ v A (by simp)).trans h.zero, by rw [set_blk h.box, he], h.hA, h.hb⟩
theorem rgCells {W : World} {B : Nat} {x0 x1 x2 x3 x4 x5 x6 x7 x8 : Value} {T : TypeId} (h : W.heap[B]? = some (.cells #[x0, x1, x2, x3, x4, x5, x6, x7, x8] T (0, 0))) : (W.cell? ⟨B, 0, none⟩ = some x0 ∧ W.cell? ⟨B, 1, none⟩ = some x1 ∧ W.cell? ⟨B, 2, none⟩ = some x2 ∧ W.cell? ⟨B, 3, none⟩ = some x3 ∧ W.cell? ⟨B, 4, none⟩ = some x4 ∧ W.cell? ⟨B, 5, none⟩ = some x5 ∧ W.cell? ⟨B, 6, none⟩ = some x6 ∧ W.cell? ⟨B, 7, none⟩ = some x7 ∧ W.cell? ⟨B, 8, none⟩ = some x8) ∧ ∀ i, W.frozen? ⟨B, i, none⟩ = false :=
  ⟨⟨by simp [World.cell?, h], by simp [World.cell?, h], by simp [World.cell?, h], by simp [World.cell?, h], by simp [World.cell?, h], by simp [World.cell?, h], by simp [World.cell?, h], by simp [World.cell?, h], by simp [World.cell?, h]⟩, fun i => by simp [World.frozen?, h]⟩
/-- nine stores over a box of nine cells -/
def set9 (W : World) (A : Nat) (x0 x1 x2 x3 x4 x5 x6 x7 x8 : Value) : World := ((((((((W.setCell ⟨A, 0, none⟩ x0).setCell ⟨A, 1, none⟩ x1).setCell ⟨A, 2, none⟩ x2).setCell ⟨A, 3, none⟩ x3).setCell ⟨A, 4, none⟩ x4).setCell ⟨A, 5, none⟩ x5).setCell ⟨A, 6, none⟩ x6).setCell ⟨A, 7, none⟩ x7).setCell ⟨A, 8, none⟩ x8
theorem set9_box {W : World} {A : Nat} {y0 y1 y2 y3 y4 y5 y6 y7 y8 : Value} {T : TypeId} (h : W.heap[A]? = some (.cells #[y0, y1, y2, y3, y4, y5, y6, y7, y8] T (0, 0))) (x0 x1 x2 x3 x4 x5 x6 x7 x8 : Value) :
    (set9 W A x0 x1 x2 x3 x4 x5 x6 x7 x8).heap[A]? = some (.cells #[x0, x1, x2, x3, x4, x5, x6, x7, x8] T (0, 0)) := by
  have h1 := set_blk h 0 x0
  have h2 := set_blk h1 1 x1
  have h3 := set_blk h2 2 x2
  have h4 := set_blk h3 3 x3
  have h5 := set_blk h4 4 x4
  have h6 := set_blk h5 5 x5
  have h7 := set_blk h6 6 x6
  have h8 := set_blk h7 7 x7
  have h9 := set_blk h8 8 x8
  unfold set9
  rw [h9]
  simp
theorem set9_but (W : World) (A : Nat) (x0 x1 x2 x3 x4 x5 x6 x7 x8 : Value) : But A W (set9 W A x0 x1 x2 x3 x4 x5 x6 x7 x8) := ((((((((But.refl A W).set 0 _).set 1 _).set 2 _).set 3 _).set 4 _).set 5 _).set 6 _).set 7 _ |>.set 8 _
end Go.Proofs.YtlbhlncipajapaaGreatDoor
namespace Go.Proofs.YtlbhlncipajapaaGreatDoor
open Go.RowKit Lx
set_option linter.unusedVariables false

theorem Cd.but {W Y : World} {b g cap : Nat} {dv : Value} {ts : List Tok} {xb : Nat → Prop} {σ : RS} (h : Cd W b g cap dv ts xb σ) {A : Nat} {cs : Array Value} {T : TypeId} {fr : Nat × Nat} (hA : W.heap[A]? = some (.cells cs T fr)) (h1 : T ≠ 46) (h2 : T ≠ 3) (hb : b < A) (hy : But A W Y) : Cd Y b g cap dv ts xb σ := by
  have hs := h.size
  obtain ⟨o, c, hc, ⟨q, q1, q2, q3⟩, h3⟩ := h.blk
  refine ⟨fun k hk => Nat.lt_of_lt_of_le (h.xlt k hk) hy.size, ⟨o, c, (hy.block b (by omega) hs).trans hc, ⟨q, q1, rd_own_same q2 fun k e => hy.block k ?_ (q2.lt k e).2, fun p hp => ⟨rd_own_same (q3 p hp).1 fun k e => hy.block k ?_ ((q3 p hp).1.lt k e).2, (q3 p hp).2⟩⟩, h3⟩, h.xnb, row_low h.row (hy.block g (by have := h.lt; omega) (by have := h.lt; omega)), h.lt, h.at_, h.len, h.cp, h.ends, h.tx⟩
  · rintro rfl
    obtain ⟨_, cs', hk⟩ := own_type q2 e
    rw [hA] at hk; cases hk; exact h1 rfl
  · rintro rfl
    obtain ⟨_, cs', hk⟩ := own_type (q3 p hp).1 e
    rw [hA] at hk; cases hk; exact h2 rfl
/-- a row of another type has grown -/
theorem Cd.grownT {W Y : World} {b g cap : Nat} {dv : Value} {ts : List Tok} {xb : Nat → Prop} {σ : RS} (h : Cd W b g cap dv ts xb σ) {B : Nat} {T : TypeId} {s : Nat} {v : Value} {n : Nat} {xs : List Value} (ho : W.ownsRow B T s v n xs) (hB : b < B) (h1 : T ≠ 46) (h2 : T ≠ 3) (hg : W.grownBy Y v.ownBlock) : Cd Y b g cap dv ts xb σ := by
  cases hk : v.ownBlock with
  | none => rw [hk] at hg; exact h.below (below_grown hg)
  | some k =>
    rw [hk] at hg
    obtain ⟨hb, cs, hc⟩ := own_type ho hk
    exact h.but hc h1 h2 (by omega) (but_grown hg)
theorem RX.but {b : Nat} {xb : Nat → Prop} {W V Y : World} (h : RX b xb W V) (hx : ∀ k, xb k → k < W.heap.size) {A : Nat} (hA : W.heap.size ≤ A) (hb : b < A) (hbs : b < W.heap.size) (hy : But A V Y) : RX b xb W Y :=
  ⟨h.rk.but hA hb hbs hy, fun k hk => (hy.block k (by have := hx k hk; omega) (by have := hx k hk; have := h.size; omega)).trans (h.xs k hk)⟩
theorem four_of {W : World} {k : Nat} {a b c d : Value} {T : TypeId} (h : W.heap[k]? = some (.cells #[a, b, c, d] T (0, 0))) : (W.cell? ⟨k, 0, none⟩ = some a ∧ W.cell? ⟨k, 1, none⟩ = some b ∧ W.cell? ⟨k, 2, none⟩ = some c ∧ W.cell? ⟨k, 3, none⟩ = some d) ∧ ∀ i, W.frozen? ⟨k, i, none⟩ = false :=
  ⟨⟨by simp [World.cell?, h], by simp [World.cell?, h], by simp [World.cell?, h], by simp [World.cell?, h]⟩, fun i => by simp [World.frozen?, h]⟩
theorem set_four {W : World} {k : Nat} {a b c d : Value} {T : TypeId} (h : W.heap[k]? = some (.cells #[a, b, c, d] T (0, 0))) (x0 x1 x2 x3 : Value) :
    ((((W.setCell ⟨k, 0, none⟩ x0).setCell ⟨k, 1, none⟩ x1).setCell ⟨k, 2, none⟩ x2).setCell ⟨k, 3, none⟩ x3).heap[k]? = some (.cells #[x0, x1, x2, x3] T (0, 0)) := by
  rw [set_blk (set_blk (set_blk (set_blk h 0 x0) 1 x1) 2 x2) 3 x3]
  simp
theorem but_four (W : World) (k : Nat) (x0 x1 x2 x3 : Value) : But k W ((((W.setCell ⟨k, 0, none⟩ x0).setCell ⟨k, 1, none⟩ x1).setCell ⟨k, 2, none⟩ x2).setCell ⟨k, 3, none⟩ x3) := ((((But.refl k W).set 0 x0).set 1 x1).set 2 x2).set 3 x3
end Go.Proofs.YtlbhlncipajapaaGreatDoor
