/- The law CodeTurned: an object's bytes, one of which is turned, or cut off, tell none. -/
import Derived.Test.YtodblepbedhnnaaCoObj
import Derived.Test.YtodblepbedhnnaaCoGreat
namespace Go.Proofs.Ytodblepbedhnnaa
open Go.RowKit Co

attribute [local go_sem] Oper.semAt_some

theorem bytesO_len (o : Ob) : 8 ≤ (bytesO o).length := by unfold bytesO sealN four signs; simp only [List.length_append, List.length_cons, List.length_nil]; omega
theorem own_cell {w : World} {B g cap : Nat} {l : List UInt8} (h : w.ownsRow B 5 1 (.slice (some ⟨g, 0, none⟩) l.length cap) l.length (bc l)) {i : Nat} {x : UInt8} (hx : l[i]? = some x) : w.cell? ⟨g, i, none⟩ = some (.int .u8 (x.toNat : Int)) ∧ w.frozen? ⟨g, i, none⟩ = false := by
  obtain ⟨hB, cur, hc, h1, h2, h3, h4⟩ := own_at h
  have hi := (List.getElem?_eq_some_iff.1 hx).1
  have hz : (bc l)[i]? = some (.int .u8 (x.toNat : Int)) := by unfold bc; rw [List.getElem?_map, hx]; rfl
  rw [← h4, List.getElem?_take, if_pos hi, Array.getElem?_toList] at hz
  exact ⟨by simp [World.cell?, hc, hz], by simp [World.frozen?, hc]⟩
theorem own_set {w : World} {B g cap : Nat} {l : List UInt8} (h : w.ownsRow B 5 1 (.slice (some ⟨g, 0, none⟩) l.length cap) l.length (bc l)) {i : Nat} (x : UInt8) : (w.setCell ⟨g, i, none⟩ (.int .u8 (x.toNat : Int))).ownsRow B 5 1 (.slice (some ⟨g, 0, none⟩) (l.set i x).length cap) (l.set i x).length (bc (l.set i x)) := by
  obtain ⟨hB, cur, hc, h1, h2, h3, h4⟩ := own_at h
  rw [List.length_set]
  refine own_mk hB (set_heap hc i _) h1 h2 (by simp [h3]) ?_ (by rw [bc_len, List.length_set])
  rw [Array.toList_setIfInBounds, List.take_set, h4]
  unfold bc
  rw [List.map_set]
theorem bytes_take {w : World} {B g cap : Nat} {l : List UInt8} (h : w.ownsRow B 5 1 (.slice (some ⟨g, 0, none⟩) l.length cap) l.length (bc l)) {i : Nat} (hi : i ≤ l.length) : BytesAt w (.slice (some ⟨g, 0, none⟩) i cap) (l.take i) := by
  have hl : (l.take i).length = i := by rw [List.length_take]; omega
  obtain ⟨hB, cur, hc, h1, h2, h3, h4⟩ := own_at h
  unfold BytesAt
  rw [hl]
  refine slAt_some (by omega) h2 fun j hj x hx => ?_
  rw [Nat.zero_add, Nat.mul_one]
  rw [List.getElem?_take, if_pos hj] at hx
  exact (own_cell h hx).1
theorem own_cap {w : World} {B g cap n : Nat} {l : List UInt8} (h : w.ownsRow B 5 1 (.slice (some ⟨g, 0, none⟩) l.length cap) l.length (bc l)) (hn : n = l.length) : (n : Int) ≤ (cap : Int) := by
  obtain ⟨hB, cur, hc, h1, _⟩ := own_at h
  omega
theorem encN_ten {v : Int} (h : i64 v) : (encN v).length ≤ 10 := numL_ten (fold_lt h)
theorem flat_most {α : Type} {e : α → List UInt8} {m : Nat} : ∀ (l : List α), (∀ x ∈ l, (e x).length ≤ m) → (l.flatMap e).length ≤ m * l.length
  | [], _ => by simp
  | x :: l, h => by
    rw [List.flatMap_cons, List.length_append, List.length_cons, Nat.mul_succ]
    have h1 := h x List.mem_cons_self
    have h2 := flat_most l fun y hy => h y (List.mem_cons_of_mem _ hy)
    omega
theorem encL_ints {l : List Int} (h : intsOk l) : (encL encN l).length ≤ 10 + 10 * l.length := by
  unfold encL
  rw [List.length_append]
  have h1 : (encN (l.length : Int)).length ≤ 10 := encN_ten (by unfold i64; have := h.1; omega)
  have h2 := flat_most (m := 10) (e := encN) l fun x hx => encN_ten (h.2 x hx)
  omega
theorem encL_sixes {l : List Six} (h : sixOk l) : (encL encI l).length ≤ 10 + 60 * l.length := by
  unfold encL
  rw [List.length_append]
  have h1 : (encN (l.length : Int)).length ≤ 10 := encN_ten (by unfold i64; have := h.1; omega)
  have h2 := flat_most (m := 60) (e := encI) l fun x hx => by
    obtain ⟨k1, k2, k3, k4, k5, k6⟩ := h.2 x hx
    have e1 := encN_ten k1
    have e2 := encN_ten k2
    have e3 := encN_ten k3
    have e4 := encN_ten k4
    have e5 := encN_ten k5
    have e6 := encN_ten k6
    unfold encI
    simp only [List.length_append]
    omega
  omega
theorem bytesO_most (o : Ob) (h : o.ok) (hs : ObSmall o) : (bytesO o).length ≤ 1000000 := by
  obtain ⟨k1, k2, k3, k4, k5, k6, k7, k8, k9, k10⟩ := h
  obtain ⟨h1, h2⟩ := hs
  have e1 := encL_ints k1
  have e2 := encL_ints k2
  have e3 := encL_ints k3
  have e4 := encL_ints k4
  have e5 := encN_ten k5
  have e6 := encN_ten k6
  have e7 := encL_sixes k7
  have e8 := encL_sixes k8
  have e9 := encL_sixes k9
  have e10 := encL_sixes k10
  unfold bytesO sealN encO four signs
  simp only [List.length_append, List.length_cons, List.length_nil]
  omega
/-- of these bytes there is no object -/
theorem obj_none {v : Value} {l : List UInt8} (w : World) (hv : BytesAt w v l) (hl : l.length ≤ 1000000) (hn : objOf l = none) : Calls Try.prog 9 #[v] w fun e w' => e = .returned (.tuple #[.agg #[.slice none 0 0, .slice none 0 0, .slice none 0 0, .slice none 0 0, .int .i64 0, .int .i64 0, .slice none 0 0, .slice none 0 0, .slice none 0 0, .slice none 0 0], .bool false]) ∧ Below w.heap.size w w' := by
  have h := obj_any v l w hv hl
  rw [hn] at h
  exact h.mono fun e w' h => ⟨h.2, h.1⟩
theorem turned_bytes {w : World} {B g cap n i t : Nat} {l : List UInt8} (h : w.ownsRow B 5 1 (.slice (some ⟨g, 0, none⟩) l.length cap) l.length (bc l)) (hn : n = l.length) (ht : (UInt8.ofNat t).toNat = t) : BytesAt (w.setCell ⟨g, i, none⟩ (.int .u8 (t : Int))) (.slice (some ⟨g, 0, none⟩) n cap) (l.set i (UInt8.ofNat t)) := by
  have h1 := own_set (i := i) h (UInt8.ofNat t)
  rw [ht] at h1
  have h2 := bytesAt_own h1
  rw [List.length_set, ← hn] at h2
  exact h2
set_option maxHeartbeats 16000000 in
set_option maxRecDepth 100000 in
theorem turned_core (o : Ob) (s1 s2 s3 s4 t1 t2 t3 t4 : Value) (a t : Nat) (ha : a < 65536) (ht : t < 256) (w : World) (hO : ObAt w s1 s2 s3 s4 t1 t2 t3 t4 o) (hlen : ObLen o) (hok : o.ok) :
    Calls Try.prog 5 #[.agg (obCells s1 s2 s3 s4 o.cross o.flags t1 t2 t3 t4), .int .u16 (a : Int), .int .u8 (t : Int)] w fun e w' => e = .returned (.bool true) ∧ Below w.heap.size w w' := by
  have GR := fun (W : World) (hb : Below w.heap.size w W) => great_any o s1 s2 s3 s4 t1 t2 t3 t4 W (hO.below hb) hlen
  have BY := fun (W : World) (hb : Below w.heap.size w W) (hs : ObSmall o) => bytes_any o s1 s2 s3 s4 t1 t2 t3 t4 W (hO.below hb) hok hs
  obtain ⟨o1, n1, c1, o2, n2, c2, o3, n3, c3, o4, n4, c4, q1, m1, d1, q2, m2, d2, q3, m3, d3, q4, m4, d4, rfl, rfl, rfl, rfl, rfl, rfl, rfl, rfl⟩ := obAt_slices hO
  unfold obCells at GR BY ⊢
  obtain ⟨x, hxe⟩ : ∃ x, x = o.cross := ⟨_, rfl⟩
  obtain ⟨y, hye⟩ : ∃ y, y = o.flags := ⟨_, rfl⟩
  rw [← hxe, ← hye] at GR BY
  rw [← hxe, ← hye]
  obtain ⟨L, hL⟩ : ∃ L, L = bytesO o := ⟨_, rfl⟩
  rw [← hL] at BY
  obtain ⟨n, hn⟩ : ∃ n, n = L.length := ⟨_, rfl⟩
  have h8 : 8 ≤ n := by rw [hn, hL]; exact bytesO_len o
  obtain ⟨i, hi⟩ : ∃ i, i = a % n := ⟨_, rfl⟩
  have hin : i < n := by rw [hi]; exact Nat.mod_lt _ (by omega)
  obtain ⟨c, hc⟩ : ∃ c, L[i]? = some c := ⟨_, List.getElem?_eq_getElem (by omega)⟩
  have hcut : objOf (L.take i) = none := by rw [hL]; exact cut_none hok (by rw [← hL, ← hn]; exact hin)
  have htn : ∀ d : UInt8, d ≠ c → objOf (L.set i d) = none := fun d hd => by rw [hL]; rw [hL] at hc; exact turned_none hc hd
  have GR := Lib.hid GR
  have BY := Lib.hid BY
  have HN := Lib.hid hn
  have HIN := Lib.hid hin
  have HNL : Hid (ObSmall o → L.length ≤ 1000000) := Lib.hid fun h => by rw [hL]; exact bytesO_most o hok h
  have HI := Lib.hid hi
  have HC := Lib.hid hc
  have HCUT := Lib.hid hcut
  have HTN := Lib.hid htn
  have AL := Lib.hid alive_any
  have HB0 := Lib.hid ((Below.refl w.heap.size w).alloc (Nat.le_refl _) (.cells #[.slice o1 n1 c1, .slice o2 n2 c2, .slice o3 n3 c3, .slice o4 n4 c4, .int .i64 x, .int .i64 y, .slice q1 m1 d1, .slice q2 m2 d2, .slice q3 m3 d3, .slice q4 m4 d4] 26))
  have HX0 := Lib.hid (heap_alloc_new w (.cells #[.slice o1 n1 c1, .slice o2 n2 c2, .slice o3 n3 c3, .slice o4 n4 c4, .int .i64 x, .int .i64 y, .slice q1 m1 d1, .slice q2 m2 d2, .slice q3 m3 d3, .slice q4 m4 d4] 26))
  have a1 : (a : Int) ≤ 65535 := by omega
  have t1' : (t : Int) ≤ 255 := by omega
  have i1 : (i : Int) < (n : Int) := by omega
  have n1' : (8 : Int) ≤ (n : Int) := by omega
  clear hO hxe hye hL hn hi hc hcut htn hlen
  go_enter Try.func5, Try.ntmps5
  go_wp2_with (first
    | (go_at_call 6; (with_reducible refine (AL.out _).mono ?_); rintro e w1 ⟨rfl, hb⟩; have HB1 := Lib.hid (HB0.out.trans (hb.mono HB0.out.size)); have hx1 := (hb.block _ (lt_of_heap HX0.out)).trans HX0.out; have HX1 := Lib.hid hx1; obtain ⟨z0, z1, z2, z3, z4, z5, z6, z7, z8, z9⟩ := ten_cells hx1; clear hb hx1)
    | (go_at_call 7; (with_reducible refine (GR.out _ HB1.out).mono ?_); rintro e w2 ⟨gr, rfl, hg, hb⟩; have HB2 := Lib.hid (HB1.out.trans (hb.mono HB1.out.size)); have hx2 := (hb.block _ (lt_of_heap HX1.out)).trans HX1.out; have HX2 := Lib.hid hx2; clear z0 z1 z2 z3 z4 z5 z6 z7 z8 z9; obtain ⟨z0, z1, z2, z3, z4, z5, z6, z7, z8, z9⟩ := ten_cells hx2; have HG := Lib.hid hg; clear hb hx2 hg; cases gr))
  rotate_left
  · go_ret
    exact ⟨rfl, HB2.out⟩
  have BY2 : Hid (Calls Try.prog 8 #[.agg #[.slice o1 n1 c1, .slice o2 n2 c2, .slice o3 n3 c3, .slice o4 n4 c4, .int .i64 x, .int .i64 y, .slice q1 m1 d1, .slice q2 m2 d2, .slice q3 m3 d3, .slice q4 m4 d4]] w2 fun e w' => ∃ g cap, e = .returned (.slice (some ⟨g, 0, none⟩) n cap) ∧ Hid (w'.ownsRow w2.heap.size 5 1 (.slice (some ⟨g, 0, none⟩) L.length cap) L.length (bc L)) ∧ Hid (Below w2.heap.size w2 w')) := Lib.hid ((BY.out _ HB2.out (HG.out (by trivial))).mono fun e w' ⟨g, cap, h1, h2, h3⟩ => ⟨g, cap, by rw [h1, HN.out], Lib.hid h2, Lib.hid h3⟩)
  have hnl : n ≤ 1000000 := by rw [HN.out]; exact HNL.out (HG.out (by trivial))
  have q5 : (n : Int) ≤ 1000000 := by omega
  have rm : (a : Int).tmod (n : Int) = (i : Int) := by rw [Int.tmod_eq_emod_of_nonneg (by omega), HI.out]; exact (Int.natCast_emod a n).symm
  clear BY GR HG AL
  obtain ⟨γ, hγ⟩ : ∃ γ, γ = c.toNat := ⟨_, rfl⟩
  have HNB := Lib.hid hnl
  have HTT : Hid ((UInt8.ofNat t).toNat = t) := Lib.hid (byte_val ht)
  by_cases hct : γ = t
  · subst hct
    have HG2 := Lib.hid hγ
    clear hnl hγ
    go_wp2_with (first
      | (go_at_call 8; (with_reducible refine BY2.out.mono ?_); rintro e w3 ⟨g, cap, rfl, HO3, hb⟩; have HB3 := Lib.hid (HB2.out.trans (hb.out.mono HB2.out.size)); have HGL := Lib.hid (Nat.le_trans HB2.out.size (own_at HO3.out).1); have hcap := own_cap HO3.out HN.out; have OB1 := Lib.hid (obj_none (v := .slice (some ⟨g, 0, none⟩) i cap) w3 (bytes_take HO3.out (i := i) (by rw [← HN.out]; exact Nat.le_of_lt HIN.out)) (by rw [List.length_take]; have := HIN.out; omega) HCUT.out); clear hb z0 z1 z2 z3 z4 z5 z6 z7 z8 z9)
      | (go_at_call 9; (with_reducible refine OB1.out.mono ?_); rintro e w4 ⟨rfl, hb⟩; have HB4 := Lib.hid ((HB3.out.trans (hb.mono HB3.out.size)).alloc (Nat.le_trans HB3.out.size hb.size) (.cells #[.slice none 0 0, .slice none 0 0, .slice none 0 0, .slice none 0 0, .int .i64 0, .int .i64 0, .slice none 0 0, .slice none 0 0, .slice none 0 0, .slice none 0 0] 26)); have HO4 := Lib.hid ((own_below hb HO3.out).alloc (.cells #[.slice none 0 0, .slice none 0 0, .slice none 0 0, .slice none 0 0, .int .i64 0, .int .i64 0, .slice none 0 0, .slice none 0 0, .slice none 0 0, .slice none 0 0] 26)); obtain ⟨r0, f0⟩ := own_cell HO4.out HC.out; rw [← HG2.out] at r0; clear hb OB1))
    go_ret
    exact ⟨rfl, HB4.out⟩
  · have HNE : Hid (UInt8.ofNat t ≠ c) := Lib.hid fun e => hct (by rw [hγ, ← e, HTT.out])
    have HG2 := Lib.hid hγ
    have hq : ((γ : Int) == (t : Int)) = false := by simp; omega
    clear hnl hγ hct
    go_wp2_with (first
      | (go_at_call 8; (with_reducible refine BY2.out.mono ?_); rintro e w3 ⟨g, cap, rfl, HO3, hb⟩; have HB3 := Lib.hid (HB2.out.trans (hb.out.mono HB2.out.size)); have HGL := Lib.hid (Nat.le_trans HB2.out.size (own_at HO3.out).1); have hcap := own_cap HO3.out HN.out; have OB1 := Lib.hid (obj_none (v := .slice (some ⟨g, 0, none⟩) i cap) w3 (bytes_take HO3.out (i := i) (by rw [← HN.out]; exact Nat.le_of_lt HIN.out)) (by rw [List.length_take]; have := HIN.out; omega) HCUT.out); clear hb z0 z1 z2 z3 z4 z5 z6 z7 z8 z9)
      | (go_at_call 9; (with_reducible refine OB1.out.mono ?_); rintro e w4 ⟨rfl, hb⟩; have HB4 := Lib.hid ((HB3.out.trans (hb.mono HB3.out.size)).alloc (Nat.le_trans HB3.out.size hb.size) (.cells #[.slice none 0 0, .slice none 0 0, .slice none 0 0, .slice none 0 0, .int .i64 0, .int .i64 0, .slice none 0 0, .slice none 0 0, .slice none 0 0, .slice none 0 0] 26)); have HO4 := Lib.hid ((own_below hb HO3.out).alloc (.cells #[.slice none 0 0, .slice none 0 0, .slice none 0 0, .slice none 0 0, .int .i64 0, .int .i64 0, .slice none 0 0, .slice none 0 0, .slice none 0 0, .slice none 0 0] 26)); obtain ⟨r0, f0⟩ := own_cell HO4.out HC.out; rw [← HG2.out] at r0; have HBS := Lib.hid (HB4.out.setCell (p := ⟨g, i, none⟩) HGL.out (.int .u8 (t : Int))); have OB2 := Lib.hid (obj_none (v := .slice (some ⟨g, 0, none⟩) n cap) (World.setCell (World.alloc w4 (.cells #[.slice none 0 0, .slice none 0 0, .slice none 0 0, .slice none 0 0, .int .i64 0, .int .i64 0, .slice none 0 0, .slice none 0 0, .slice none 0 0, .slice none 0 0] 26)) ⟨g, i, none⟩ (.int .u8 (t : Int))) (turned_bytes HO4.out HN.out HTT.out) (by rw [List.length_set, ← HN.out]; have := HNB.out; omega) (HTN.out _ HNE.out)); clear hb OB1)
      | (go_at_call 9; (with_reducible refine OB2.out.mono ?_); rintro e w5 ⟨rfl, hb⟩; have HB5 := Lib.hid (HBS.out.trans (hb.mono HBS.out.size)); clear hb))
    go_ret
    exact ⟨rfl, HB5.out.alloc HB5.out.size _⟩
theorem turned_any (o : Ob) (s1 s2 s3 s4 t1 t2 t3 t4 : Value) (a t : Int) (ha : 0 ≤ a ∧ a < 65536) (ht : 0 ≤ t ∧ t < 256) (w : World) (hO : ObAt w s1 s2 s3 s4 t1 t2 t3 t4 o) (hlen : ObLen o) (hok : o.ok) :
    Calls Try.prog 5 #[.agg (obCells s1 s2 s3 s4 o.cross o.flags t1 t2 t3 t4), .int .u16 a, .int .u8 t] w fun e w' => e = .returned (.bool true) ∧ Below w.heap.size w w' := by
  obtain ⟨A, rfl⟩ := Int.eq_ofNat_of_zero_le ha.1
  obtain ⟨T, rfl⟩ := Int.eq_ofNat_of_zero_le ht.1
  exact turned_core o s1 s2 s3 s4 t1 t2 t3 t4 A T (by omega) (by omega) w hO hlen hok
end Go.Proofs.Ytodblepbedhnnaa
