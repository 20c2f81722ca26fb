/- The reference's reader: a piece. -/
import Derived.Test.YtodblepbedhnnaaCoRInts
namespace Go.Proofs.Ytodblepbedhnnaa
open Go.RowKit Co

attribute [local go_sem] Oper.semAt_some

theorem wpList_pushS {B : Nat} {l : List Six} {v : Value} {Z : World} (h : Hid (Z.ownsRow B 59 6 v l.length (sixesV l))) (x : Six) (hk : l.length ≤ 1000000) (hB : B ≤ Z.heap.size) {ops : Array Oper} {rest : List Oper} {o : Oper} {act : Act} {Q : Exit → Act → World → Prop} (hgd : o.guard = none) (s t : Operand)
    (hop : o.op = Op.call { callee := Callee.builtin Builtin.append, args := #[s, t], argTypes := #[24, 24] }) (hs : act.eval s = v) {H : Nat} (hH : Z.heap.size = H) (hx : act.eval t = .slice (some ⟨H, 0, none⟩) 1 1)
    (hK : ∀ v' Y, Hid (Y.ownsRow B 59 6 v' (l ++ [x]).length (sixesV (l ++ [x]))) → Hid (Below B Z Y) → wpList Try.prog ops Q rest (act.put o.dst v') Y) :
    wpList Try.prog ops Q (o :: rest) act (Z.alloc (.cells #[.int .i64 x.op, .int .i64 x.d, .int .i64 x.a, .int .i64 x.b, .int .i64 x.c, .int .i64 x.v] 59)) := by
  subst hH
  obtain ⟨i, h2, h3, h4, h5⟩ := ins_parts
  have h := h.out
  refine wpList_append_lies (w := _) hgd s t 24 hop B 59 i (.agg #[.int .i64 0, .int .i64 0, .int .i64 0, .int .i64 0, .int .i64 0, .int .i64 0]) 6 48 Try.underlying24 h2 h3 h4 h5 rfl (by decide) v l.length (sixesV l) hs (h.alloc _) ⟨Z.heap.size, 0, none⟩ 1 1 [.int .i64 x.op, .int .i64 x.d, .int .i64 x.a, .int .i64 x.b, .int .i64 x.c, .int .i64 x.v] hx rfl (fun j u hu => ?_) (by simp [Value.oneCell']) (by decide) (by unfold maxLen; omega) (by omega) (by rw [World.size_alloc]; omega) _ rfl fun g' cap' Y ho hgr hw _ => ?_
  · have hj : j < 6 := by have := (List.getElem?_eq_some_iff.1 hu).1; simpa using this
    have hz := heap_alloc_new Z (.cells #[.int .i64 x.op, .int .i64 x.d, .int .i64 x.a, .int .i64 x.b, .int .i64 x.c, .int .i64 x.v] 59)
    match j, hj with
    | 0, _ => cases hu; show (Z.alloc _).cell? ⟨Z.heap.size, 0, none⟩ = _; unfold World.cell?; rw [hz]; rfl
    | 1, _ => cases hu; show (Z.alloc _).cell? ⟨Z.heap.size, 1, none⟩ = _; unfold World.cell?; rw [hz]; rfl
    | 2, _ => cases hu; show (Z.alloc _).cell? ⟨Z.heap.size, 2, none⟩ = _; unfold World.cell?; rw [hz]; rfl
    | 3, _ => cases hu; show (Z.alloc _).cell? ⟨Z.heap.size, 3, none⟩ = _; unfold World.cell?; rw [hz]; rfl
    | 4, _ => cases hu; show (Z.alloc _).cell? ⟨Z.heap.size, 4, none⟩ = _; unfold World.cell?; rw [hz]; rfl
    | 5, _ => cases hu; show (Z.alloc _).cell? ⟨Z.heap.size, 5, none⟩ = _; unfold World.cell?; rw [hz]; rfl
  · have hlen : (l ++ [x]).length = l.length + 1 := by simp
    refine hK _ Y (Lib.hid ?_) (Lib.hid (((Below.refl B Z).alloc hB _).grown hgr (by rw [World.size_alloc]; omega) (own_block h)))
    have e : sixesV (l ++ [x]) = sixesV l ++ [.int .i64 x.op, .int .i64 x.d, .int .i64 x.a, .int .i64 x.b, .int .i64 x.c, .int .i64 x.v] := by unfold sixesV; rw [List.flatMap_append]; rfl
    rw [hlen, e]
    exact ho
theorem RR.other {w0 w : World} {R p K i : Nat} {s : Value} {bad : Bool} (h : RR w0 R s p bad w) (hK : w0.heap.size ≤ K) (hR : K ≠ R) (v : Value) : RR w0 R s p bad (w.setCell ⟨K, i, none⟩ v) :=
  ⟨h.below.setCell (p := ⟨K, i, none⟩) hK _, h.low, (set_other (fun e => hR e.symm)).trans h.box⟩
def LJ6 (B : List UInt8) (p m : Nat) (bad : Bool) (c : Nat) (l : List Six) (q : Nat) (bd : Bool) : Prop :=
  l.length = c ∧ (∀ x ∈ l, x.ok) ∧ q ≤ B.length ∧ p ≤ q ∧ (bad = true → bd = true) ∧ (bd = false → p + 6 * c < q) ∧ (bad = false → ∀ L r, sixOk L → B.drop p = encL encI L ++ r → bd = false ∧ m = L.length ∧ l = L.take c ∧ B.drop q = (L.drop c).flatMap encI ++ r)
def PieceR (B : List UInt8) (p : Nat) (bad : Bool) (l : List Six) (q : Nat) (bd : Bool) : Prop :=
  (∀ x ∈ l, x.ok) ∧ l.length ≤ B.length ∧ q ≤ B.length ∧ p ≤ q ∧ (bad = true → bd = true) ∧ (bd = false → p + 6 * l.length < q) ∧ (bad = false → ∀ L r, sixOk L → B.drop p = encL encI L ++ r → bd = false ∧ l = L ∧ B.drop q = r)
theorem six_least (L : List Six) : L.length ≤ (L.flatMap encI).length := by
  induction L with
  | nil => simp
  | cons x l ih =>
    rw [List.flatMap_cons, List.length_append, List.length_cons]
    have h1 : 1 ≤ (encN x.op).length := numL_pos _
    have h2 : 1 ≤ (encI x).length := by
      unfold encI
      simp only [List.length_append]
      omega
    omega
theorem lj6_start {B : List UInt8} {p m q : Nat} {bad bd : Bool} (h : ManyR B p m q bd) : LJ6 B p m bad 0 [] q (bad || bd) := by
  obtain ⟨h1, h2, h3, h4⟩ := h
  refine ⟨rfl, by simp, by omega, h1, fun hb => by rw [hb]; rfl, fun hb => ?_, fun hb L r hL hd => ?_⟩
  · have : bd = false := by cases bad <;> simp_all
    have := h3 this
    omega
  · unfold encL at hd
    rw [List.append_assoc] at hd
    have hfl := six_least L
    obtain ⟨e1, e2, e3⟩ := h4 L.length _ (by have := hL.1; unfold i64; omega) (by rw [List.length_append]; omega) hd
    refine ⟨by rw [hb, e3]; rfl, e1, by simp, ?_⟩
    rw [List.drop_zero]
    exact drop_on hd e2
theorem lj6_next {B : List UInt8} {p m c q q1 q2 q3 q4 q5 q6 : Nat} {bad b1 b2 b3 b4 b5 b6 : Bool} {l : List Six} {v1 v2 v3 v4 v5 v6 : Int} (h : LJ6 B p m bad c l q false) (hc : c < m) (n1 : NumR B q v1 q1 b1) (n2 : NumR B q1 v2 q2 b2) (n3 : NumR B q2 v3 q3 b3) (n4 : NumR B q3 v4 q4 b4) (n5 : NumR B q4 v5 q5 b5) (n6 : NumR B q5 v6 q6 b6) :
    LJ6 B p m bad (c + 1) (l ++ [⟨v1, v2, v3, v4, v5, v6⟩]) q6 ((((((false || b1) || b2) || b3) || b4) || b5) || b6) := by
  obtain ⟨h1, h2, h3, h4, h5, h6, h7⟩ := h
  obtain ⟨i1, j1, k1, m1, c1⟩ := n1
  obtain ⟨i2, j2, k2, m2, c2⟩ := n2
  obtain ⟨i3, j3, k3, m3, c3⟩ := n3
  obtain ⟨i4, j4, k4, m4, c4⟩ := n4
  obtain ⟨i5, j5, k5, m5, c5⟩ := n5
  obtain ⟨i6, j6, k6, m6, c6⟩ := n6
  have g1 := k1 h3
  have g2 := k2 g1
  have g3 := k3 g2
  have g4 := k4 g3
  have g5 := k5 g4
  have g6 := k6 g5
  refine ⟨by rw [List.length_append, h1]; rfl, fun x hx => ?_, g6, by omega, fun hb => by have := h5 hb; simp at this, fun hb => ?_, fun hb L r hL hd => ?_⟩
  · rcases List.mem_append.1 hx with hx | hx
    · exact h2 x hx
    · rw [List.mem_singleton.1 hx]; exact ⟨i1, i2, i3, i4, i5, i6⟩
  · simp only [Bool.or_eq_false_iff] at hb
    obtain ⟨⟨⟨⟨⟨⟨_, e1⟩, e2⟩, e3⟩, e4⟩, e5⟩, e6⟩ := hb
    have := h6 rfl
    have := m1 e1
    have := m2 e2
    have := m3 e3
    have := m4 e4
    have := m5 e5
    have := m6 e6
    omega
  · obtain ⟨_, e2, e3, e4⟩ := h7 hb L r hL hd
    have hcl : c < L.length := by omega
    have hx : L[c]? = some L[c] := List.getElem?_eq_getElem hcl
    have hok := hL.2 _ (List.getElem_mem hcl)
    rw [List.drop_eq_getElem_cons hcl, List.flatMap_cons, List.append_assoc] at e4
    obtain ⟨x, hxe⟩ : ∃ x, x = L[c] := ⟨_, rfl⟩
    rw [← hxe] at e4 hok hx
    unfold encI at e4
    simp only [List.append_assoc] at e4
    obtain ⟨o1, o2, o3, o4, o5, o6⟩ := hok
    obtain ⟨x1, y1, z1⟩ := c1 _ _ o1 e4
    have r1 := drop_on e4 y1
    obtain ⟨x2, y2, z2⟩ := c2 _ _ o2 r1
    have r2 := drop_on r1 y2
    obtain ⟨x3, y3, z3⟩ := c3 _ _ o3 r2
    have r3 := drop_on r2 y3
    obtain ⟨x4, y4, z4⟩ := c4 _ _ o4 r3
    have r4 := drop_on r3 y4
    obtain ⟨x5, y5, z5⟩ := c5 _ _ o5 r4
    have r5 := drop_on r4 y5
    obtain ⟨x6, y6, z6⟩ := c6 _ _ o6 r5
    have r6 := drop_on r5 y6
    refine ⟨by rw [z1, z2, z3, z4, z5, z6]; rfl, e2, ?_, r6⟩
    rw [e3, take_next hx, x1, x2, x3, x4, x5, x6]
theorem lj6_end {B : List UInt8} {p m c q : Nat} {bad bd : Bool} {l : List Six} (h : LJ6 B p m bad c l q bd) (hm : m ≤ B.length) (hc : c ≤ m) (he : c = m ∨ bd = true) : PieceR B p bad l q bd := by
  obtain ⟨h1, h2, h3, h4, h5, h6, h7⟩ := h
  refine ⟨h2, by omega, h3, h4, h5, fun hb => by rw [h1]; exact h6 hb, fun hb L r hL hd => ?_⟩
  obtain ⟨e1, e2, e3, e4⟩ := h7 hb L r hL hd
  have hcm : c = L.length := by
    rcases he with he | he
    · omega
    · rw [e1] at he; cases he
  rw [hcm, List.take_length] at e3
  rw [hcm, List.drop_length] at e4
  exact ⟨e1, e3, by simpa using e4⟩
def PiecePost (w0 : World) (R : Nat) (s : Value) (bad : Bool) (w : World) (B : List UInt8) (p : Nat) (e : Ending) (w' : World) : Prop := ∃ v l q bd, e = .returned v ∧ PieceR B p bad l q bd ∧ w'.ownsRow w.heap.size 59 6 v l.length (sixesV l) ∧ RR w0 R s q bd w' ∧ Sm R w w'
set_option maxHeartbeats 16000000 in
set_option maxRecDepth 100000 in
theorem rrpiece_any (w0 : World) (R p : Nat) (s : Value) (B : List UInt8) (bad : Bool) (hs : BytesAt w0 s B) (hl : B.length ≤ 1000000) (hp : p ≤ B.length) (w : World) (h : RR w0 R s p bad w) :
    Calls Try.prog 34 #[.pointer (some ⟨R, 0, none⟩)] w fun e w' => PiecePost w0 R s bad w B p e w' := by
  have CM := Lib.hid (rmany_any w0 R p s B bad hs hl hp w h)
  have CN := Lib.hid fun (q : Nat) (b : Bool) (W : World) (hq : q ≤ 1000000) (h : RR w0 R s q b W) => rrnum_any w0 R q s B b hs hl hq W h
  have HRw : Hid (R < w.heap.size) := Lib.hid (lt_of_heap h.box)
  have HLB := Lib.hid hl
  obtain ⟨o, cap, b, off, rfl, _, _, e1, c1⟩ := hs
  obtain ⟨n, hn⟩ : ∃ n, n = B.length := ⟨_, rfl⟩
  rw [← hn] at CM CN ⊢
  have HN := Lib.hid hn
  clear hn e1 c1 hl h hp
  go_enter Try.func34, Try.ntmps34
  go_wp2_with (go_at_call 50; (with_reducible refine CM.out.mono ?_); rintro e w1 ⟨m, q, bd, rfl, hN, hR, hS⟩; have HM := Lib.hid hN; have HR := Lib.hid hR; have HS := Lib.hid hS; have ml : (m : Int) ≤ 1000000 := (by have := hN.2.1; have := HLB.out; omega); clear hN hR hS)
  have HO0 : Hid (w1.ownsRow w.heap.size 59 6 (.slice none 0 0) 0 []) := Lib.hid ⟨rfl, .inl ⟨rfl, rfl⟩⟩
  go_loopw [3, 5] (fun d i wr => ∃ (c q : Nat) (l : List Six) (b : Bool), i = .int .i64 (c : Int) ∧ c ≤ m ∧ Hid (LJ6 B p m bad c l q b) ∧ Hid (wr.ownsRow w.heap.size 59 6 d l.length (sixesV l)) ∧ Hid (RR w0 R (.slice o n cap) q b wr) ∧ Hid (Sm R w wr)) (fun _ i _ => m - litLen i)
  case atStart => exact ⟨0, q, [], bad || bd, rfl, Nat.zero_le _, Lib.hid (lj6_start HM.out), HO0, HR, HS⟩
  case round =>
    obtain ⟨c, q, l, b, rfl, hc, hM, hO, hR, hS⟩ := hrel
    obtain ⟨⟨z0, z1, z2⟩, f0, f1, f2⟩ := rr_cells hR.out
    rcases Nat.lt_or_ge c m with hlt | hge
    · have hcm : (c : Int) < (m : Int) := by omega
      cases b with
      | true =>
        go_wp2_with fail
        go_ret
        exact ⟨u3, l, q, true, rfl, lj6_end hM.out (by have := HM.out.2.1; omega) hc (.inr rfl), hO.out, hR.out, hS.out⟩
      | false =>
        have HLL : Hid (l.length ≤ 1000000) := Lib.hid (by have := hM.out.1; omega)
        have HRwr : R < wr.heap.size := lt_of_heap hR.out.box
        have HKR : Hid (wr.heap.size ≠ R) := Lib.hid (by omega)
        have HKL : Hid (w0.heap.size ≤ wr.heap.size) := Lib.hid hR.out.below.size
        have HA := Lib.hid (heap_alloc_new wr (.cells #[.int .i64 0, .int .i64 0, .int .i64 0, .int .i64 0, .int .i64 0, .int .i64 0] 59))
        have HK0 := Lib.hid (lt_of_heap HA.out)
        have HS0 := Lib.hid (Sm.alloc R wr (.cells #[.int .i64 0, .int .i64 0, .int .i64 0, .int .i64 0, .int .i64 0, .int .i64 0] 59))
        have C1 := Lib.hid (CN.out q false _ (by have := hM.out.2.2.1; have := HLB.out; omega) (hR.out.upon ((Below.refl _ wr).alloc (Nat.le_refl _) (.cells #[.int .i64 0, .int .i64 0, .int .i64 0, .int .i64 0, .int .i64 0, .int .i64 0] 59))))
        clear HRwr
        go_wp2_with (first
          | (go_at_call 33; (with_reducible refine C1.out.mono ?_); rintro e w1 ⟨v1, q1, b1, rfl, hN2, hR2, hS2⟩; have HN1 := Lib.hid hN2; have HL1 : Hid (q1 ≤ B.length) := Lib.hid (hN2.2.2.1 hM.out.2.2.1); have hx := (hS2.same wr.heap.size HK0.out HKR.out).trans HA.out; have HX1 : Hid ((w1.setCell ⟨wr.heap.size, 0, none⟩ (.int .i64 v1)).heap[wr.heap.size]? = some (.cells #[.int .i64 v1, .int .i64 0, .int .i64 0, .int .i64 0, .int .i64 0, .int .i64 0] 59 (0, 0))) := Lib.hid (by have h := set_heap hx 0 (.int .i64 v1); simpa using h); have HK1 : Hid (wr.heap.size < (w1.setCell ⟨wr.heap.size, 0, none⟩ (.int .i64 v1)).heap.size) := Lib.hid (lt_of_heap HX1.out); have HR1 := Lib.hid (hR2.other (i := 0) HKL.out HKR.out (.int .i64 v1)); have HS1 : Hid (Sm R wr (w1.setCell ⟨wr.heap.size, 0, none⟩ (.int .i64 v1))) := Lib.hid ((HS0.out.trans hS2).own (Nat.le_refl _) _); have y1_0 : w1.cell? ⟨wr.heap.size, 0, none⟩ = some (.int .i64 0) := (by simp [World.cell?, hx]); have g1 : w1.frozen? ⟨wr.heap.size, 0, none⟩ = false := (by simp [World.frozen?, hx]); have C2 := Lib.hid (CN.out q1 (false || b1) _ (by have := HL1.out; have := HLB.out; omega) HR1.out); clear hN2 hR2 hS2 hx)
          | (go_at_call 33; (with_reducible refine C2.out.mono ?_); rintro e w2 ⟨v2, q2, b2, rfl, hN2, hR2, hS2⟩; clear y1_0 g1; have HN2 := Lib.hid hN2; have HL2 : Hid (q2 ≤ B.length) := Lib.hid (hN2.2.2.1 HL1.out); have hx := (hS2.same wr.heap.size HK1.out HKR.out).trans HX1.out; have HX2 : Hid ((w2.setCell ⟨wr.heap.size, 1, none⟩ (.int .i64 v2)).heap[wr.heap.size]? = some (.cells #[.int .i64 v1, .int .i64 v2, .int .i64 0, .int .i64 0, .int .i64 0, .int .i64 0] 59 (0, 0))) := Lib.hid (by have h := set_heap hx 1 (.int .i64 v2); simpa using h); have HK2 : Hid (wr.heap.size < (w2.setCell ⟨wr.heap.size, 1, none⟩ (.int .i64 v2)).heap.size) := Lib.hid (lt_of_heap HX2.out); have HR2 := Lib.hid (hR2.other (i := 1) HKL.out HKR.out (.int .i64 v2)); have HS2 : Hid (Sm R wr (w2.setCell ⟨wr.heap.size, 1, none⟩ (.int .i64 v2))) := Lib.hid ((HS1.out.trans hS2).own (Nat.le_refl _) _); have y2_1 : w2.cell? ⟨wr.heap.size, 1, none⟩ = some (.int .i64 0) := (by simp [World.cell?, hx]); have g2 : w2.frozen? ⟨wr.heap.size, 1, none⟩ = false := (by simp [World.frozen?, hx]); have C3 := Lib.hid (CN.out q2 ((false || b1) || b2) _ (by have := HL2.out; have := HLB.out; omega) HR2.out); clear hN2 hR2 hS2 hx)
          | (go_at_call 33; (with_reducible refine C3.out.mono ?_); rintro e w3 ⟨v3, q3, b3, rfl, hN2, hR2, hS2⟩; clear y2_1 g2; have HN3 := Lib.hid hN2; have HL3 : Hid (q3 ≤ B.length) := Lib.hid (hN2.2.2.1 HL2.out); have hx := (hS2.same wr.heap.size HK2.out HKR.out).trans HX2.out; have HX3 : Hid ((w3.setCell ⟨wr.heap.size, 2, none⟩ (.int .i64 v3)).heap[wr.heap.size]? = some (.cells #[.int .i64 v1, .int .i64 v2, .int .i64 v3, .int .i64 0, .int .i64 0, .int .i64 0] 59 (0, 0))) := Lib.hid (by have h := set_heap hx 2 (.int .i64 v3); simpa using h); have HK3 : Hid (wr.heap.size < (w3.setCell ⟨wr.heap.size, 2, none⟩ (.int .i64 v3)).heap.size) := Lib.hid (lt_of_heap HX3.out); have HR3 := Lib.hid (hR2.other (i := 2) HKL.out HKR.out (.int .i64 v3)); have HS3 : Hid (Sm R wr (w3.setCell ⟨wr.heap.size, 2, none⟩ (.int .i64 v3))) := Lib.hid ((HS2.out.trans hS2).own (Nat.le_refl _) _); have y3_2 : w3.cell? ⟨wr.heap.size, 2, none⟩ = some (.int .i64 0) := (by simp [World.cell?, hx]); have g3 : w3.frozen? ⟨wr.heap.size, 2, none⟩ = false := (by simp [World.frozen?, hx]); have C4 := Lib.hid (CN.out q3 (((false || b1) || b2) || b3) _ (by have := HL3.out; have := HLB.out; omega) HR3.out); clear hN2 hR2 hS2 hx)
          | (go_at_call 33; (with_reducible refine C4.out.mono ?_); rintro e w4 ⟨v4, q4, b4, rfl, hN2, hR2, hS2⟩; clear y3_2 g3; have HN4 := Lib.hid hN2; have HL4 : Hid (q4 ≤ B.length) := Lib.hid (hN2.2.2.1 HL3.out); have hx := (hS2.same wr.heap.size HK3.out HKR.out).trans HX3.out; have HX4 : Hid ((w4.setCell ⟨wr.heap.size, 3, none⟩ (.int .i64 v4)).heap[wr.heap.size]? = some (.cells #[.int .i64 v1, .int .i64 v2, .int .i64 v3, .int .i64 v4, .int .i64 0, .int .i64 0] 59 (0, 0))) := Lib.hid (by have h := set_heap hx 3 (.int .i64 v4); simpa using h); have HK4 : Hid (wr.heap.size < (w4.setCell ⟨wr.heap.size, 3, none⟩ (.int .i64 v4)).heap.size) := Lib.hid (lt_of_heap HX4.out); have HR4 := Lib.hid (hR2.other (i := 3) HKL.out HKR.out (.int .i64 v4)); have HS4 : Hid (Sm R wr (w4.setCell ⟨wr.heap.size, 3, none⟩ (.int .i64 v4))) := Lib.hid ((HS3.out.trans hS2).own (Nat.le_refl _) _); have y4_3 : w4.cell? ⟨wr.heap.size, 3, none⟩ = some (.int .i64 0) := (by simp [World.cell?, hx]); have g4 : w4.frozen? ⟨wr.heap.size, 3, none⟩ = false := (by simp [World.frozen?, hx]); have C5 := Lib.hid (CN.out q4 ((((false || b1) || b2) || b3) || b4) _ (by have := HL4.out; have := HLB.out; omega) HR4.out); clear hN2 hR2 hS2 hx)
          | (go_at_call 33; (with_reducible refine C5.out.mono ?_); rintro e w5 ⟨v5, q5, b5, rfl, hN2, hR2, hS2⟩; clear y4_3 g4; have HN5 := Lib.hid hN2; have HL5 : Hid (q5 ≤ B.length) := Lib.hid (hN2.2.2.1 HL4.out); have hx := (hS2.same wr.heap.size HK4.out HKR.out).trans HX4.out; have HX5 : Hid ((w5.setCell ⟨wr.heap.size, 4, none⟩ (.int .i64 v5)).heap[wr.heap.size]? = some (.cells #[.int .i64 v1, .int .i64 v2, .int .i64 v3, .int .i64 v4, .int .i64 v5, .int .i64 0] 59 (0, 0))) := Lib.hid (by have h := set_heap hx 4 (.int .i64 v5); simpa using h); have HK5 : Hid (wr.heap.size < (w5.setCell ⟨wr.heap.size, 4, none⟩ (.int .i64 v5)).heap.size) := Lib.hid (lt_of_heap HX5.out); have HR5 := Lib.hid (hR2.other (i := 4) HKL.out HKR.out (.int .i64 v5)); have HS5 : Hid (Sm R wr (w5.setCell ⟨wr.heap.size, 4, none⟩ (.int .i64 v5))) := Lib.hid ((HS4.out.trans hS2).own (Nat.le_refl _) _); have y5_4 : w5.cell? ⟨wr.heap.size, 4, none⟩ = some (.int .i64 0) := (by simp [World.cell?, hx]); have g5 : w5.frozen? ⟨wr.heap.size, 4, none⟩ = false := (by simp [World.frozen?, hx]); have C6 := Lib.hid (CN.out q5 (((((false || b1) || b2) || b3) || b4) || b5) _ (by have := HL5.out; have := HLB.out; omega) HR5.out); clear hN2 hR2 hS2 hx)
          | (go_at_call 33; (with_reducible refine C6.out.mono ?_); rintro e w6 ⟨v6, q6, b6, rfl, hN2, hR2, hS2⟩; clear y5_4 g5; have HN6 := Lib.hid hN2; have HL6 : Hid (q6 ≤ B.length) := Lib.hid (hN2.2.2.1 HL5.out); have hx := (hS2.same wr.heap.size HK5.out HKR.out).trans HX5.out; have HX6 : Hid ((w6.setCell ⟨wr.heap.size, 5, none⟩ (.int .i64 v6)).heap[wr.heap.size]? = some (.cells #[.int .i64 v1, .int .i64 v2, .int .i64 v3, .int .i64 v4, .int .i64 v5, .int .i64 v6] 59 (0, 0))) := Lib.hid (by have h := set_heap hx 5 (.int .i64 v6); simpa using h); have HK6 : Hid (wr.heap.size < (w6.setCell ⟨wr.heap.size, 5, none⟩ (.int .i64 v6)).heap.size) := Lib.hid (lt_of_heap HX6.out); have HR6 := Lib.hid (hR2.other (i := 5) HKL.out HKR.out (.int .i64 v6)); have HS6 : Hid (Sm R wr (w6.setCell ⟨wr.heap.size, 5, none⟩ (.int .i64 v6))) := Lib.hid ((HS5.out.trans hS2).own (Nat.le_refl _) _); have y6_0 : w6.cell? ⟨wr.heap.size, 0, none⟩ = some (.int .i64 v1) := (by simp [World.cell?, hx]); have y6_1 : w6.cell? ⟨wr.heap.size, 1, none⟩ = some (.int .i64 v2) := (by simp [World.cell?, hx]); have y6_2 : w6.cell? ⟨wr.heap.size, 2, none⟩ = some (.int .i64 v3) := (by simp [World.cell?, hx]); have y6_3 : w6.cell? ⟨wr.heap.size, 3, none⟩ = some (.int .i64 v4) := (by simp [World.cell?, hx]); have y6_4 : w6.cell? ⟨wr.heap.size, 4, none⟩ = some (.int .i64 v5) := (by simp [World.cell?, hx]); have y6_5 : w6.cell? ⟨wr.heap.size, 5, none⟩ = some (.int .i64 0) := (by simp [World.cell?, hx]); have g6 : w6.frozen? ⟨wr.heap.size, 5, none⟩ = false := (by simp [World.frozen?, hx]); have HO6 := Lib.hid (own_sm hO.out hS.out.size HRw.out HS6.out); have HB6 := Lib.hid (hS.out.trans HS6.out).size; clear hN2 hR2 hS2 hx)
          | (at_builtin; refine wpList_pushS HO6 ⟨v1, v2, v3, v4, v5, v6⟩ HLL.out HB6.out rfl (.tmp 39) (.tmp 41) rfl rfl (by simp [World.setCell]) rfl ?_; intro v7 w7 HO7 HB7))
        have HR7 := Lib.hid (HR6.out.uponB HRw.out HB7.out)
        have HS7 := Lib.hid ((hS.out.trans HS6.out).uponB HB7.out)
        have HM7 := Lib.hid (lj6_next hM.out hlt HN1.out HN2.out HN3.out HN4.out HN5.out HN6.out)
        exact ⟨⟨c + 1, q6, l ++ [⟨v1, v2, v3, v4, v5, v6⟩], _, by go_num, by omega, HM7, HO7, HR7, HS7⟩, by simp [litLen]; omega⟩
    · obtain rfl : c = m := by omega
      have hno : ¬ (c : Int) < (c : Int) := by omega
      go_wp2_with fail
      go_ret
      exact ⟨u3, l, q, b, rfl, lj6_end hM.out (by have := HM.out.2.1; omega) hc (.inl rfl), hO.out, hR.out, hS.out⟩
end Go.Proofs.Ytodblepbedhnnaa
