/- What the reference's reader makes of any bytes: an object, or none. -/
import Derived.Test.YtodblepbedhnnaaCoRPiece
namespace Go.Proofs.Ytodblepbedhnnaa
open Go.RowKit Co

theorem canon_drop {B : List UInt8} {o : Ob} (h : objOf B = some o) : ∃ r, B.drop 4 = encO o ++ r := by
  obtain ⟨h1, _⟩ := bytes_objOf h
  refine ⟨four (sumN (signs ++ encO o)), ?_⟩
  rw [h1]
  unfold bytesO sealN
  rw [List.append_assoc]
  rfl
structure AllR (B : List UInt8) (o : Ob) (bad : Bool) : Prop where
  same : ∀ o', objOf B = some o' → bad = false ∧ o' = o
  ok : o.ok
  small : bad = false → o.inn.length + o.out.length + o.state.length + o.mem.length + 6 * (o.deriv.length + o.zero.length + o.step.length + o.at_.length) ≤ B.length
theorem chain_obj {B : List UInt8} (hB : B.length ≤ 5000) {l1 l2 l3 l4 : List Int} {v5 v6 : Int} {l7 l8 l9 l10 : List Six} {q1 q2 q3 q4 q5 q6 q7 q8 q9 q10 : Nat} {b1 b2 b3 b4 c5 c6 b7 b8 b9 b10 : Bool}
    (i1 : ListR B 4 false l1 q1 b1) (i2 : ListR B q1 b1 l2 q2 b2) (i3 : ListR B q2 b2 l3 q3 b3) (i4 : ListR B q3 b3 l4 q4 b4) (n5 : NumR B q4 v5 q5 c5) (n6 : NumR B q5 v6 q6 c6)
    (i7 : PieceR B q6 ((b4 || c5) || c6) l7 q7 b7) (i8 : PieceR B q7 b7 l8 q8 b8) (i9 : PieceR B q8 b8 l9 q9 b9) (i10 : PieceR B q9 b9 l10 q10 b10) : AllR B ⟨l1, l2, l3, l4, v5, v6, l7, l8, l9, l10⟩ b10 := by
  obtain ⟨x1, y1, z1, w1, s1, t1, c1⟩ := i1
  obtain ⟨x2, y2, z2, w2, s2, t2, c2⟩ := i2
  obtain ⟨x3, y3, z3, w3, s3, t3, c3⟩ := i3
  obtain ⟨x4, y4, z4, w4, s4, t4, c4⟩ := i4
  obtain ⟨x5, w5, z5, t5, k5⟩ := n5
  obtain ⟨x6, w6, z6, t6, k6⟩ := n6
  obtain ⟨x7, y7, z7, w7, s7, t7, c7⟩ := i7
  obtain ⟨x8, y8, z8, w8, s8, t8, c8⟩ := i8
  obtain ⟨x9, y9, z9, w9, s9, t9, c9⟩ := i9
  obtain ⟨x10, y10, z10, w10, s10, t10, c10⟩ := i10
  have hok : Ob.ok ⟨l1, l2, l3, l4, v5, v6, l7, l8, l9, l10⟩ := ⟨⟨by show l1.length ≤ 9223372036854775807; omega, x1⟩, ⟨by show l2.length ≤ 9223372036854775807; omega, x2⟩, ⟨by show l3.length ≤ 9223372036854775807; omega, x3⟩, ⟨by show l4.length ≤ 9223372036854775807; omega, x4⟩, x5, x6, ⟨by show l7.length ≤ 9223372036854775807; omega, x7⟩, ⟨by show l8.length ≤ 9223372036854775807; omega, x8⟩, ⟨by show l9.length ≤ 9223372036854775807; omega, x9⟩, ⟨by show l10.length ≤ 9223372036854775807; omega, x10⟩⟩
  refine ⟨fun o' ho => ?_, hok, fun hb => ?_⟩
  · obtain ⟨r, hr⟩ := canon_drop ho
    obtain ⟨_, k1, k2, k3, k4, k5', k6', k7, k8, k9, k10⟩ := bytes_objOf ho
    unfold encO at hr
    simp only [List.append_assoc] at hr
    obtain ⟨e1, f1, g1⟩ := c1 rfl _ _ k1 hr
    obtain ⟨e2, f2, g2⟩ := c2 e1 _ _ k2 g1
    obtain ⟨e3, f3, g3⟩ := c3 e2 _ _ k3 g2
    obtain ⟨e4, f4, g4⟩ := c4 e3 _ _ k4 g3
    obtain ⟨f5, d5, e5⟩ := k5 _ _ k5' g4
    have g5 := drop_on g4 d5
    obtain ⟨f6, d6, e6⟩ := k6 _ _ k6' g5
    have g6 := drop_on g5 d6
    obtain ⟨e7, f7, g7⟩ := c7 (by rw [e4, e5, e6]; rfl) _ _ k7 g6
    obtain ⟨e8, f8, g8⟩ := c8 e7 _ _ k8 g7
    obtain ⟨e9, f9, g9⟩ := c9 e8 _ _ k9 g8
    obtain ⟨e10, f10, g10⟩ := c10 e9 _ _ k10 g9
    refine ⟨e10, ?_⟩
    cases o'
    simp only at f1 f2 f3 f4 f5 f6 f7 f8 f9 f10
    rw [f1, f2, f3, f4, f5, f6, f7, f8, f9, f10]
  · have nb : ∀ {a b : Bool}, (a = true → b = true) → b = false → a = false := fun {a b} h hb => by cases a <;> simp_all
    have h9 := nb s10 hb
    have h8 := nb s9 h9
    have h7 := nb s8 h8
    have h6 := nb s7 h7
    simp only [Bool.or_eq_false_iff] at h6
    obtain ⟨⟨h4, h5⟩, h6⟩ := h6
    have h3 := nb s4 h4
    have h2 := nb s3 h3
    have h1 := nb s2 h2
    have := t1 h1
    have := t2 h2
    have := t3 h3
    have := t4 h4
    have := t5 h5
    have := t6 h6
    have := t7 h7
    have := t8 h8
    have := t9 h9
    have := t10 hb
    simp only
    omega
/-- rows that lie there as lists -/
theorem own_ints {B : Nat} {T : TypeId} {v : Value} {l : List Int} {w : World} (h : w.ownsRow B T 1 v l.length (l.map iv)) : IntsAt w v l := by
  rcases h.2 with ⟨h1, h2⟩ | ⟨g, cap, cur, h1, h2, h3, h4, h5, h6, h7⟩
  · subst h1
    unfold IntsAt
    rw [h2]
    exact slAt_none _ _ _ _ _ ⟨Nat.zero_le _, fun _ => rfl⟩ rfl
  · subst h1
    refine slAt_some h4 h5 fun i hi => ?_
    have hz : (l.map iv)[i]? = some (iv (l.getD i 0)) := by rw [List.getElem?_map, List.getD_eq_getElem?_getD, List.getElem?_eq_getElem hi]; rfl
    rw [Nat.mul_one] at h7
    rw [← h7, List.getElem?_take, if_pos hi, Array.getElem?_toList] at hz
    rw [Nat.zero_add, Nat.mul_one]
    simp [World.cell?, h3, hz, iv]
theorem own_sixes {B : Nat} {v : Value} {l : List Six} {w : World} {T : TypeId} (h : w.ownsRow B T 6 v l.length (sixesV l)) : SixesAt w v l := by
  rcases h.2 with ⟨h1, h2⟩ | ⟨g, cap, cur, h1, h2, h3, h4, h5, h6, h7⟩
  · subst h1
    unfold SixesAt
    rw [h2]
    exact slAt_none _ _ _ _ _ ⟨Nat.zero_le _, fun _ => rfl⟩ rfl
  · subst h1
    refine slAt_some h4 h5 fun i hi x hx => ?_
    have hc : ∀ j, j < 6 → w.cell? ⟨g, 0 + i * 6 + j, none⟩ = (sixV x)[j]? := fun j hj => by
      have hz := flat_six l i x hx j hj
      rw [← h7, List.getElem?_take, if_pos (by omega), Array.getElem?_toList] at hz
      rw [← hz, Nat.zero_add]
      simp [World.cell?, h3]
    exact ⟨hc 0 (by omega), hc 1 (by omega), hc 2 (by omega), hc 3 (by omega), hc 4 (by omega), hc 5 (by omega)⟩
theorem own_low {B n K i sz : Nat} {T : TypeId} {v u : Value} {xs : List Value} {w : World} (h : w.ownsRow B T sz v n xs) (hK : K < B) : (w.setCell ⟨K, i, none⟩ u).ownsRow B T sz v n xs := by
  obtain ⟨h0, h⟩ := h
  refine ⟨h0, ?_⟩
  rcases h with h | ⟨g, cap, cur, h1, h2, h3, h4⟩
  · exact .inl h
  · exact .inr ⟨g, cap, cur, h1, h2, (set_other (by omega)).trans h3, h4⟩
end Go.Proofs.Ytodblepbedhnnaa
