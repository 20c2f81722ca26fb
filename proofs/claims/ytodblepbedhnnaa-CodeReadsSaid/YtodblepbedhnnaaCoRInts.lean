/- The reference's reader: lists of numbers. -/
import Derived.Test.YtodblepbedhnnaaCoRMany
namespace Go.Proofs.Ytodblepbedhnnaa
open Go.RowKit Co

attribute [local go_sem] Oper.semAt_some

theorem own_block {B n : Nat} {T : TypeId} {v : Value} {xs : List Value} {w : World} {sz : Nat} (h : w.ownsRow B T sz v n xs) : ∀ k, v.ownBlock = some k → B ≤ k := by
  intro k hk
  rcases h.2 with ⟨h1, _⟩ | ⟨g, cap, cur, h1, h2, _⟩
  · rw [h1] at hk; cases hk
  · rw [h1] at hk
    have e : g = k := Option.some.inj hk
    omega
theorem own_sm {B n R sz : Nat} {T : TypeId} {v : Value} {xs : List Value} {w w' : World} (h : w.ownsRow B T sz v n xs) (_ : B ≤ w.heap.size) (hR : R < B) (hs : Sm R w w') : w'.ownsRow B T sz v n xs := by
  obtain ⟨h0, h⟩ := h
  refine ⟨h0, ?_⟩
  rcases h with h | ⟨g, cap, cur, h1, h2, h3, h4⟩
  · exact .inl h
  · exact .inr ⟨g, cap, cur, h1, h2, (hs.same g (lt_of_heap h3) (by omega)).trans h3, h4⟩
theorem RR.uponB {w0 w W : World} {R p B : Nat} {s : Value} {bad : Bool} (h : RR w0 R s p bad w) (hR : R < B) (hb : Below B w W) : RR w0 R s p bad W := ⟨h.below.trans (hb.mono (by have := h.low; omega)), h.low, (hb.block _ hR).trans h.box⟩
theorem Sm.uponB {R : Nat} {w v W : World} (h : Sm R w v) (hb : Below w.heap.size v W) : Sm R w W := ⟨Nat.le_trans h.size hb.size, fun k hk hR => (hb.block k hk).trans (h.same k hk hR)⟩
theorem wpList_pushI {T tl : TypeId} (hT : Try.prog.underlying tl = some (.slice T)) (hi : ∃ i, Try.prog.info? T = some i ∧ i.zero = some (.int .i64 0) ∧ i.size = 1 ∧ i.bytes = 8) {B : Nat} {l : List Int} {v : Value} {Z : World} (h : Hid (Z.ownsRow B T 1 v l.length (l.map iv))) (x : Int) (hk : l.length ≤ 1000000) (hB : B ≤ Z.heap.size) {ops : Array Oper} {rest : List Oper} {o : Oper} {act : Act} {Q : Exit → Act → World → Prop} (hgd : o.guard = none) (s t : Operand)
    (hop : o.op = Op.call { callee := Callee.builtin Builtin.append, args := #[s, t], argTypes := #[tl, tl] }) (hs : act.eval s = v) {H : Nat} (hH : Z.heap.size = H) (hx : act.eval t = .slice (some ⟨H, 0, none⟩) 1 1)
    (hK : ∀ v' Y, Hid (Y.ownsRow B T 1 v' (l ++ [x]).length ((l ++ [x]).map iv)) → Hid (Below B Z Y) → wpList Try.prog ops Q rest (act.put o.dst v') Y) :
    wpList Try.prog ops Q (o :: rest) act (Z.alloc (.cells #[.int .i64 x] T)) := by
  subst hH
  obtain ⟨i, h2, h3, h4, h5⟩ := hi
  have h := h.out
  refine wpList_append_lies (w := _) hgd s t tl hop B T i (.int .i64 0) 1 8 hT h2 h3 h4 h5 rfl (by decide) v l.length (l.map iv) hs (h.alloc _) ⟨Z.heap.size, 0, none⟩ 1 1 [iv x] hx rfl (fun j u hu => ?_) (by simp [Value.oneCell', iv]) (by decide) (by unfold maxLen; omega) (by omega) (by rw [World.size_alloc]; omega) _ rfl fun g' cap' Y ho hgr hw _ => ?_
  · have hj : j = 0 := by have := (List.getElem?_eq_some_iff.1 hu).1; simp at this; omega
    subst hj
    cases hu
    show (Z.alloc _).cell? ⟨Z.heap.size, 0, none⟩ = _
    rw [World.cell?_alloc_new]
    rfl
  · have hlen : (l ++ [x]).length = l.length + 1 := by simp
    refine hK _ Y (Lib.hid ?_) (Lib.hid (((Below.refl B Z).alloc hB _).grown hgr (by rw [World.size_alloc]; omega) (own_block h)))
    rw [hlen, List.map_append]
    exact ho
/-- in the loop that reads a list: so many are read -/
def LJ (B : List UInt8) (p m : Nat) (bad : Bool) (c : Nat) (l : List Int) (q : Nat) (bd : Bool) : Prop :=
  l.length = c ∧ (∀ x ∈ l, i64 x) ∧ q ≤ B.length ∧ p ≤ q ∧ (bad = true → bd = true) ∧ (bd = false → p + c < q) ∧ (bad = false → ∀ L r, intsOk L → B.drop p = encL encN L ++ r → bd = false ∧ m = L.length ∧ l = L.take c ∧ B.drop q = (L.drop c).flatMap encN ++ r)
/-- a list that was read, or not -/
def ListR (B : List UInt8) (p : Nat) (bad : Bool) (l : List Int) (q : Nat) (bd : Bool) : Prop :=
  (∀ x ∈ l, i64 x) ∧ l.length ≤ B.length ∧ q ≤ B.length ∧ p ≤ q ∧ (bad = true → bd = true) ∧ (bd = false → p + l.length < q) ∧ (bad = false → ∀ L r, intsOk L → B.drop p = encL encN L ++ r → bd = false ∧ l = L ∧ B.drop q = r)
theorem drop_on {B x r : List UInt8} {p q : Nat} (h : B.drop p = x ++ r) (hq : q = p + x.length) : B.drop q = r := by
  rw [hq, ← List.drop_drop, h, List.drop_left]
theorem flat_least (L : List Int) : L.length ≤ (L.flatMap encN).length := by
  induction L with
  | nil => simp
  | cons x l ih =>
    rw [List.flatMap_cons, List.length_append, List.length_cons]
    have : 1 ≤ (encN x).length := numL_pos _
    omega
theorem lj_start {B : List UInt8} {p m q : Nat} {bad bd : Bool} (h : ManyR B p m q bd) : LJ B p m bad 0 [] q (bad || bd) := by
  obtain ⟨h1, h2, h3, h4⟩ := h
  refine ⟨rfl, by simp, by omega, h1, fun hb => by rw [hb]; rfl, fun hb => ?_, fun hb L r hL hd => ?_⟩
  · have : bd = false := by cases bad <;> simp_all
    have := h3 this
    omega
  · unfold encL at hd
    rw [List.append_assoc] at hd
    have hfl := flat_least L
    obtain ⟨e1, e2, e3⟩ := h4 L.length _ (by have := hL.1; unfold i64; omega) (by rw [List.length_append]; omega) hd
    refine ⟨by rw [hb, e3]; rfl, e1, by simp, ?_⟩
    rw [List.drop_zero]
    exact drop_on hd e2
theorem lj_next {B : List UInt8} {p m c q q' : Nat} {bad bd : Bool} {l : List Int} {v : Int} (h : LJ B p m bad c l q false) (hc : c < m) (hn : NumR B q v q' bd) : LJ B p m bad (c + 1) (l ++ [v]) q' (false || bd) := by
  obtain ⟨h1, h2, h3, h4, h5, h6, h7⟩ := h
  obtain ⟨n1, n2, n3, n4, n5⟩ := hn
  rw [Bool.false_or]
  refine ⟨by rw [List.length_append, h1]; rfl, fun x hx => ?_, n3 h3, by omega, fun hb => by have := h5 hb; simp at this, fun hb => ?_, fun hb L r hL hd => ?_⟩
  · rcases List.mem_append.1 hx with hx | hx
    · exact h2 x hx
    · rw [List.mem_singleton.1 hx]; exact n1
  · have := h6 rfl
    have := n4 hb
    omega
  · obtain ⟨_, e2, e3, e4⟩ := h7 hb L r hL hd
    have hcl : c < L.length := by omega
    have hx : L[c]? = some L[c] := List.getElem?_eq_getElem hcl
    rw [List.drop_eq_getElem_cons hcl, List.flatMap_cons, List.append_assoc] at e4
    obtain ⟨f1, f2, f3⟩ := n5 L[c] _ (hL.2 _ (List.getElem_mem hcl)) e4
    exact ⟨f3, e2, by rw [e3, take_next hx, f1], drop_on e4 f2⟩
theorem lj_end {B : List UInt8} {p m c q : Nat} {bad bd : Bool} {l : List Int} (h : LJ B p m bad c l q bd) (hm : m ≤ B.length) (hc : c ≤ m) (he : c = m ∨ bd = true) : ListR B p bad l q bd := by
  obtain ⟨h1, h2, h3, h4, h5, h6, h7⟩ := h
  refine ⟨h2, by omega, h3, h4, h5, fun hb => by rw [h1]; exact h6 hb, fun hb L r hL hd => ?_⟩
  obtain ⟨e1, e2, e3, e4⟩ := h7 hb L r hL hd
  have hcm : c = L.length := by
    rcases he with he | he
    · omega
    · rw [e1] at he; cases he
  rw [hcm, List.take_length] at e3
  rw [hcm, List.drop_length] at e4
  exact ⟨e1, e3, by simpa using e4⟩
/-- the value of a call that reads a list -/
def ListPost (T : TypeId) (w0 : World) (R : Nat) (s : Value) (bad : Bool) (w : World) (B : List UInt8) (p : Nat) (e : Ending) (w' : World) : Prop := ∃ v l q bd, e = .returned v ∧ ListR B p bad l q bd ∧ w'.ownsRow w.heap.size T 1 v l.length (l.map iv) ∧ RR w0 R s q bd w' ∧ Sm R w w'
set_option maxHeartbeats 8000000 in
set_option maxRecDepth 100000 in
theorem rrints_any (w0 : World) (R p : Nat) (s : Value) (B : List UInt8) (bad : Bool) (hs : BytesAt w0 s B) (hl : B.length ≤ 1000000) (hp : p ≤ B.length) (w : World) (h : RR w0 R s p bad w) :
    Calls Try.prog 31 #[.pointer (some ⟨R, 0, none⟩)] w fun e w' => ListPost 3 w0 R s bad w B p e w' := by
  have CM := Lib.hid (rmany_any w0 R p s B bad hs hl hp w h)
  have CN := Lib.hid fun (q : Nat) (b : Bool) (W : World) (hq : q ≤ 1000000) (h : RR w0 R s q b W) => rrnum_any w0 R q s B b hs hl hq W h
  have HRw : Hid (R < w.heap.size) := Lib.hid (lt_of_heap h.box)
  have HLB := Lib.hid hl
  obtain ⟨o, cap, b, off, rfl, _, _, e1, c1⟩ := hs
  obtain ⟨n, hn⟩ : ∃ n, n = B.length := ⟨_, rfl⟩
  rw [← hn] at CM CN ⊢
  have HN := Lib.hid hn
  clear hn e1 c1 hl h hp
  go_enter Try.func31, Try.ntmps31
  go_wp2_with (go_at_call 50; (with_reducible refine CM.out.mono ?_); rintro e w1 ⟨m, q, bd, rfl, hN, hR, hS⟩; have HM := Lib.hid hN; have HR := Lib.hid hR; have HS := Lib.hid hS; have ml : (m : Int) ≤ 1000000 := (by have := hN.2.1; have := HLB.out; omega); clear hN hR hS)
  have HO0 : Hid (w1.ownsRow w.heap.size 3 1 (.slice none 0 0) 0 []) := Lib.hid ⟨rfl, .inl ⟨rfl, rfl⟩⟩
  go_loopw [3, 5] (fun d i wr => ∃ (c q : Nat) (l : List Int) (b : Bool), i = .int .i64 (c : Int) ∧ c ≤ m ∧ Hid (LJ B p m bad c l q b) ∧ Hid (wr.ownsRow w.heap.size 3 1 d l.length (l.map iv)) ∧ Hid (RR w0 R (.slice o n cap) q b wr) ∧ Hid (Sm R w wr)) (fun _ i _ => m - litLen i)
  case atStart => exact ⟨0, q, [], bad || bd, rfl, Nat.zero_le _, Lib.hid (lj_start HM.out), HO0, HR, HS⟩
  case round =>
    obtain ⟨c, q, l, b, rfl, hc, hM, hO, hR, hS⟩ := hrel
    obtain ⟨⟨z0, z1, z2⟩, f0, f1, f2⟩ := rr_cells hR.out
    rcases Nat.lt_or_ge c m with hlt | hge
    · have hcm : (c : Int) < (m : Int) := by omega
      cases b with
      | true =>
        go_wp2_with fail
        go_ret
        exact ⟨u3, l, q, true, rfl, lj_end hM.out (by have := HM.out.2.1; omega) hc (.inr rfl), hO.out, hR.out, hS.out⟩
      | false =>
        have C1 := Lib.hid (CN.out q false wr (by have := hM.out.2.2.1; have := HLB.out; omega) hR.out)
        have hBw := Lib.hid hS.out.size
        have HL6 : Hid (l.length ≤ 1000000) := Lib.hid (by have := hM.out.1; omega)
        go_wp2_with (first
          | (go_at_call 33; (with_reducible refine C1.out.mono ?_); rintro e w2 ⟨v, q2, b2, rfl, hN2, hR2, hS2⟩; have HM2 := Lib.hid (lj_next hM.out hlt hN2); have HO2 := Lib.hid (own_sm hO.out hS.out.size HRw.out hS2); have HR2 := Lib.hid hR2; have HS2 := Lib.hid (hS.out.trans hS2); have HB2 := Lib.hid (hS.out.trans hS2).size; clear hN2 hR2 hS2)
          | (at_builtin; refine wpList_pushI Try.underlying22 int_parts HO2 v HL6.out HB2.out rfl (.tmp 20) (.tmp 23) rfl rfl rfl rfl ?_; intro v3 w3 HO3 HB3))
        have HR3 := Lib.hid (HR2.out.uponB HRw.out HB3.out)
        have HS3 := Lib.hid (HS2.out.uponB HB3.out)
        exact ⟨⟨c + 1, q2, l ++ [v], false || b2, by go_num, by omega, HM2, HO3, HR3, HS3⟩, by simp [litLen]; omega⟩
    · obtain rfl : c = m := by omega
      have hno : ¬ (c : Int) < (c : Int) := by omega
      go_wp2_with fail
      go_ret
      exact ⟨u3, l, q, b, rfl, lj_end hM.out (by have := HM.out.2.1; omega) hc (.inl rfl), hO.out, hR.out, hS.out⟩
set_option maxHeartbeats 8000000 in
set_option maxRecDepth 100000 in
theorem rrnums_any (w0 : World) (R p : Nat) (s : Value) (B : List UInt8) (bad : Bool) (hs : BytesAt w0 s B) (hl : B.length ≤ 1000000) (hp : p ≤ B.length) (w : World) (h : RR w0 R s p bad w) :
    Calls Try.prog 32 #[.pointer (some ⟨R, 0, none⟩)] w fun e w' => ListPost 2 w0 R s bad w B p e w' := by
  have CM := Lib.hid (rmany_any w0 R p s B bad hs hl hp w h)
  have CN := Lib.hid fun (q : Nat) (b : Bool) (W : World) (hq : q ≤ 1000000) (h : RR w0 R s q b W) => rrnum_any w0 R q s B b hs hl hq W h
  have HRw : Hid (R < w.heap.size) := Lib.hid (lt_of_heap h.box)
  have HLB := Lib.hid hl
  obtain ⟨o, cap, b, off, rfl, _, _, e1, c1⟩ := hs
  obtain ⟨n, hn⟩ : ∃ n, n = B.length := ⟨_, rfl⟩
  rw [← hn] at CM CN ⊢
  have HN := Lib.hid hn
  clear hn e1 c1 hl h hp
  go_enter Try.func32, Try.ntmps32
  go_wp2_with (go_at_call 50; (with_reducible refine CM.out.mono ?_); rintro e w1 ⟨m, q, bd, rfl, hN, hR, hS⟩; have HM := Lib.hid hN; have HR := Lib.hid hR; have HS := Lib.hid hS; have ml : (m : Int) ≤ 1000000 := (by have := hN.2.1; have := HLB.out; omega); clear hN hR hS)
  have HO0 : Hid (w1.ownsRow w.heap.size 2 1 (.slice none 0 0) 0 []) := Lib.hid ⟨rfl, .inl ⟨rfl, rfl⟩⟩
  go_loopw [3, 5] (fun d i wr => ∃ (c q : Nat) (l : List Int) (b : Bool), i = .int .i64 (c : Int) ∧ c ≤ m ∧ Hid (LJ B p m bad c l q b) ∧ Hid (wr.ownsRow w.heap.size 2 1 d l.length (l.map iv)) ∧ Hid (RR w0 R (.slice o n cap) q b wr) ∧ Hid (Sm R w wr)) (fun _ i _ => m - litLen i)
  case atStart => exact ⟨0, q, [], bad || bd, rfl, Nat.zero_le _, Lib.hid (lj_start HM.out), HO0, HR, HS⟩
  case round =>
    obtain ⟨c, q, l, b, rfl, hc, hM, hO, hR, hS⟩ := hrel
    obtain ⟨⟨z0, z1, z2⟩, f0, f1, f2⟩ := rr_cells hR.out
    rcases Nat.lt_or_ge c m with hlt | hge
    · have hcm : (c : Int) < (m : Int) := by omega
      cases b with
      | true =>
        go_wp2_with fail
        go_ret
        exact ⟨u3, l, q, true, rfl, lj_end hM.out (by have := HM.out.2.1; omega) hc (.inr rfl), hO.out, hR.out, hS.out⟩
      | false =>
        have C1 := Lib.hid (CN.out q false wr (by have := hM.out.2.2.1; have := HLB.out; omega) hR.out)
        have hBw := Lib.hid hS.out.size
        have HL6 : Hid (l.length ≤ 1000000) := Lib.hid (by have := hM.out.1; omega)
        go_wp2_with (first
          | (go_at_call 33; (with_reducible refine C1.out.mono ?_); rintro e w2 ⟨v, q2, b2, rfl, hN2, hR2, hS2⟩; have HM2 := Lib.hid (lj_next hM.out hlt hN2); have HO2 := Lib.hid (own_sm hO.out hS.out.size HRw.out hS2); have HR2 := Lib.hid hR2; have HS2 := Lib.hid (hS.out.trans hS2); have HB2 := Lib.hid (hS.out.trans hS2).size; clear hN2 hR2 hS2)
          | (at_builtin; refine wpList_pushI Try.underlying23 int64_parts HO2 v HL6.out HB2.out rfl (.tmp 20) (.tmp 23) rfl rfl rfl rfl ?_; intro v3 w3 HO3 HB3))
        have HR3 := Lib.hid (HR2.out.uponB HRw.out HB3.out)
        have HS3 := Lib.hid (HS2.out.uponB HB3.out)
        exact ⟨⟨c + 1, q2, l ++ [v], false || b2, by go_num, by omega, HM2, HO3, HR3, HS3⟩, by simp [litLen]; omega⟩
    · obtain rfl : c = m := by omega
      have hno : ¬ (c : Int) < (c : Int) := by omega
      go_wp2_with fail
      go_ret
      exact ⟨u3, l, q, b, rfl, lj_end hM.out (by have := HM.out.2.1; omega) hc (.inl rfl), hO.out, hR.out, hS.out⟩
end Go.Proofs.Ytodblepbedhnnaa
