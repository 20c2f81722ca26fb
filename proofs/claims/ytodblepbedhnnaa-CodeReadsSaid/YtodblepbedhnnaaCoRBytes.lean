/- The reference's Bytes: an object's bytes. -/
import Derived.Test.YtodblepbedhnnaaCoRSum
namespace Go.Proofs.Ytodblepbedhnnaa
open Go.RowKit Co

attribute [local go_sem] Oper.semAt_some

/-- a call that puts bytes behind those of the row -/
abbrev PutS (f : Nat) (w : World) (g0 : Nat) (W0 : World) (p q : List UInt8) (n k : Nat) (v : Value) : Prop :=
  ∀ ga ca z, Rw w g0 W0 p ga ca z → Calls Try.prog f #[.slice (some ⟨ga, 0, none⟩) n ca, v] z fun e z' => ∃ g cap, e = .returned (.slice (some ⟨g, 0, none⟩) k cap) ∧ Rw w g0 W0 q g cap z'
theorem PutS.of {f : Nat} {w : World} {g0 : Nat} {W0 : World} {p x q : List UInt8} {v : Value} {n k : Nat} (hq : q = p ++ x) (hn : n = p.length) (hk : k = q.length)
    (h : ∀ ga ca z, Rw w g0 W0 p ga ca z → Calls Try.prog f #[.slice (some ⟨ga, 0, none⟩) p.length ca, v] z fun e z' => RwPost w ga z (p ++ x) e z') : PutS f w g0 W0 p q n k v := by
  subst hq hn hk
  exact fun ga ca z hz => (h ga ca z hz).mono fun e z' ⟨g, cap, he, hr⟩ => ⟨g, cap, he, hz.trans hr⟩
theorem ten_keep {w W0 z : World} {g0 g cap : Nat} {p : List UInt8} (h : Rw w g0 W0 p g cap z) {K : Nat} (hK : K < W0.heap.size ∧ K ≠ g0) {o : Obj} (ho : W0.heap[K]? = some o) : z.heap[K]? = some o := ((h.keep K hK.1 hK.2).1).trans ho
theorem signs_row {w W1 : World} (hb : Below w.heap.size w W1) : Rw w W1.heap.size (W1.alloc (.cells #[.int .u8 65, .int .u8 83, .int .u8 84, .int .u8 49] 5)) signs W1.heap.size 4 (W1.alloc (.cells #[.int .u8 65, .int .u8 83, .int .u8 84, .int .u8 49] 5)) :=
  Rw.refl (own_mk hb.size (heap_alloc_new W1 _) (by decide) (by unfold maxLen; omega) rfl (by simp [bc, signs]) (by simp [bc, signs])) (hb.alloc hb.size _)
set_option maxHeartbeats 16000000 in
set_option maxRecDepth 100000 in
theorem rbytes_any (o : Ob) (s1 s2 s3 s4 t1 t2 t3 t4 : Value) (w : World) (hO : ObAt w s1 s2 s3 s4 t1 t2 t3 t4 o) (hok : o.ok) (hsm : ObSmall o) :
    Calls Try.prog 10 #[.agg (obCells s1 s2 s3 s4 o.cross o.flags t1 t2 t3 t4)] w fun e w' => OwnB w (bytesO o) e w' := by
  obtain ⟨k1, k2, k3, k4, k5, k6, k7, k8, k9, k10⟩ := hok
  obtain ⟨z1, z2⟩ := hsm
  have e1 := encL_ints k1
  have e2 := encL_ints k2
  have e3 := encL_ints k3
  have e4 := encL_ints k4
  have e5 := encN_ten k5
  have e6 := encN_ten k6
  have e7 := encL_sixes k7
  have e8 := encL_sixes k8
  have e9 := encL_sixes k9
  have e10 := encL_sixes k10
  obtain ⟨p0, hp0⟩ : ∃ p, p = signs := ⟨_, rfl⟩
  have l0 : p0.length = 4 := by rw [hp0]; rfl
  obtain ⟨p1, hp1⟩ : ∃ p, p = p0 ++ encL encN o.inn := ⟨_, rfl⟩
  have l1 : p1.length = p0.length + (encL encN o.inn).length := by rw [hp1, List.length_append]
  obtain ⟨p2, hp2⟩ : ∃ p, p = p1 ++ encL encN o.out := ⟨_, rfl⟩
  have l2 : p2.length = p1.length + (encL encN o.out).length := by rw [hp2, List.length_append]
  obtain ⟨p3, hp3⟩ : ∃ p, p = p2 ++ encL encN o.state := ⟨_, rfl⟩
  have l3 : p3.length = p2.length + (encL encN o.state).length := by rw [hp3, List.length_append]
  obtain ⟨p4, hp4⟩ : ∃ p, p = p3 ++ encL encN o.mem := ⟨_, rfl⟩
  have l4 : p4.length = p3.length + (encL encN o.mem).length := by rw [hp4, List.length_append]
  obtain ⟨p5, hp5⟩ : ∃ p, p = p4 ++ encN o.cross := ⟨_, rfl⟩
  have l5 : p5.length = p4.length + (encN o.cross).length := by rw [hp5, List.length_append]
  obtain ⟨p6, hp6⟩ : ∃ p, p = p5 ++ encN o.flags := ⟨_, rfl⟩
  have l6 : p6.length = p5.length + (encN o.flags).length := by rw [hp6, List.length_append]
  obtain ⟨p7, hp7⟩ : ∃ p, p = p6 ++ encL encI o.deriv := ⟨_, rfl⟩
  have l7 : p7.length = p6.length + (encL encI o.deriv).length := by rw [hp7, List.length_append]
  obtain ⟨p8, hp8⟩ : ∃ p, p = p7 ++ encL encI o.zero := ⟨_, rfl⟩
  have l8 : p8.length = p7.length + (encL encI o.zero).length := by rw [hp8, List.length_append]
  obtain ⟨p9, hp9⟩ : ∃ p, p = p8 ++ encL encI o.step := ⟨_, rfl⟩
  have l9 : p9.length = p8.length + (encL encI o.step).length := by rw [hp9, List.length_append]
  obtain ⟨p10, hp10⟩ : ∃ p, p = p9 ++ encL encI o.at_ := ⟨_, rfl⟩
  have l10 : p10.length = p9.length + (encL encI o.at_).length := by rw [hp10, List.length_append]
  have hend : p10 = signs ++ encO o := by rw [hp10, hp9, hp8, hp7, hp6, hp5, hp4, hp3, hp2, hp1, hp0]; unfold encO; simp only [List.append_assoc]
  obtain ⟨u1, hu1⟩ : ∃ u, u = p1.length := ⟨_, rfl⟩
  obtain ⟨u2, hu2⟩ : ∃ u, u = p2.length := ⟨_, rfl⟩
  obtain ⟨u3, hu3⟩ : ∃ u, u = p3.length := ⟨_, rfl⟩
  obtain ⟨u4, hu4⟩ : ∃ u, u = p4.length := ⟨_, rfl⟩
  obtain ⟨u5, hu5⟩ : ∃ u, u = p5.length := ⟨_, rfl⟩
  obtain ⟨u6, hu6⟩ : ∃ u, u = p6.length := ⟨_, rfl⟩
  obtain ⟨u7, hu7⟩ : ∃ u, u = p7.length := ⟨_, rfl⟩
  obtain ⟨u8, hu8⟩ : ∃ u, u = p8.length := ⟨_, rfl⟩
  obtain ⟨u9, hu9⟩ : ∃ u, u = p9.length := ⟨_, rfl⟩
  obtain ⟨u10, hu10⟩ : ∃ u, u = p10.length := ⟨_, rfl⟩
  have N1 : ∀ g0 W0, PutS 20 w g0 W0 p0 p1 4 u1 s1 := fun g0 W0 => PutS.of hp1 (l0.symm) hu1 fun ga ca z hz => rints_any w ga ca p0 o.inn s1 hO.inn k1 (by omega) z hz.own hz.below
  have N2 : ∀ g0 W0, PutS 20 w g0 W0 p1 p2 u1 u2 s2 := fun g0 W0 => PutS.of hp2 (hu1) hu2 fun ga ca z hz => rints_any w ga ca p1 o.out s2 hO.out k2 (by omega) z hz.own hz.below
  have N3 : ∀ g0 W0, PutS 21 w g0 W0 p2 p3 u2 u3 s3 := fun g0 W0 => PutS.of hp3 (hu2) hu3 fun ga ca z hz => rnumbers_any w ga ca p2 o.state s3 hO.state k3 (by omega) z hz.own hz.below
  have N4 : ∀ g0 W0, PutS 21 w g0 W0 p3 p4 u3 u4 s4 := fun g0 W0 => PutS.of hp4 (hu3) hu4 fun ga ca z hz => rnumbers_any w ga ca p3 o.mem s4 hO.mem k4 (by omega) z hz.own hz.below
  have N5 : ∀ g0 W0, PutS 22 w g0 W0 p4 p5 u4 u5 (.int .i64 o.cross) := fun g0 W0 => PutS.of hp5 (hu4) hu5 fun ga ca z hz => rnumber_any w ga ca p4 o.cross k5 (by omega) z hz.own hz.below
  have N6 : ∀ g0 W0, PutS 22 w g0 W0 p5 p6 u5 u6 (.int .i64 o.flags) := fun g0 W0 => PutS.of hp6 (hu5) hu6 fun ga ca z hz => rnumber_any w ga ca p5 o.flags k6 (by omega) z hz.own hz.below
  have N7 : ∀ g0 W0, PutS 23 w g0 W0 p6 p7 u6 u7 t1 := fun g0 W0 => PutS.of hp7 (hu6) hu7 fun ga ca z hz => rpiece_any w ga ca p6 o.deriv t1 hO.deriv k7 (by omega) z hz.own hz.below
  have N8 : ∀ g0 W0, PutS 23 w g0 W0 p7 p8 u7 u8 t2 := fun g0 W0 => PutS.of hp8 (hu7) hu8 fun ga ca z hz => rpiece_any w ga ca p7 o.zero t2 hO.zero k8 (by omega) z hz.own hz.below
  have N9 : ∀ g0 W0, PutS 23 w g0 W0 p8 p9 u8 u9 t3 := fun g0 W0 => PutS.of hp9 (hu8) hu9 fun ga ca z hz => rpiece_any w ga ca p8 o.step t3 hO.step k9 (by omega) z hz.own hz.below
  have N10 : ∀ g0 W0, PutS 23 w g0 W0 p9 p10 u9 u10 t4 := fun g0 W0 => PutS.of hp10 (hu9) hu10 fun ga ca z hz => rpiece_any w ga ca p9 o.at_ t4 hO.at_ k10 (by omega) z hz.own hz.below
  have LE : 0 < u10 ∧ u10 ≤ 400000 := by omega
  obtain ⟨x, hxe⟩ : ∃ x, x = o.cross := ⟨_, rfl⟩
  obtain ⟨y, hye⟩ : ∃ y, y = o.flags := ⟨_, rfl⟩
  rw [← hxe] at N5
  rw [← hye] at N6
  rw [← hxe, ← hye]
  obtain ⟨o1, n1, c1, o2, n2, c2, o3, n3, c3, o4, n4, c4, q1, m1, d1, q2, m2, d2, q3, m3, d3, q4, m4, d4, rfl, rfl, rfl, rfl, rfl, rfl, rfl, rfl⟩ := obAt_slices hO
  obtain ⟨W1, hW1⟩ : ∃ W, W = w.alloc (.cells #[.slice o1 n1 c1, .slice o2 n2 c2, .slice o3 n3 c3, .slice o4 n4 c4, .int .i64 x, .int .i64 y, .slice q1 m1 d1, .slice q2 m2 d2, .slice q3 m3 d3, .slice q4 m4 d4] 26) := ⟨_, rfl⟩
  have hK1 : w.heap.size < W1.heap.size := by rw [hW1, World.size_alloc]; omega
  have hX1 : W1.heap[w.heap.size]? = some (.cells #[.slice o1 n1 c1, .slice o2 n2 c2, .slice o3 n3 c3, .slice o4 n4 c4, .int .i64 x, .int .i64 y, .slice q1 m1 d1, .slice q2 m2 d2, .slice q3 m3 d3, .slice q4 m4 d4] 26 (0, 0)) := by rw [hW1]; exact heap_alloc_new w _
  have hb1 : Below w.heap.size w W1 := by rw [hW1]; exact (Below.refl _ w).alloc (Nat.le_refl _) _
  obtain ⟨W0, hW0⟩ : ∃ W, W = W1.alloc (.cells #[.int .u8 65, .int .u8 83, .int .u8 84, .int .u8 49] 5) := ⟨_, rfl⟩
  have R0 := signs_row hb1
  rw [← hW0] at R0
  rw [← hp0] at R0
  have hs1 : W1.heap.size = w.heap.size + 1 := by rw [hW1, World.size_alloc]
  rw [hs1] at R0
  have hK0 : Hid (w.heap.size < W0.heap.size ∧ w.heap.size ≠ w.heap.size + 1) := Lib.hid ⟨by rw [hW0, World.size_alloc]; omega, by omega⟩
  have hX0 : Hid (W0.heap[w.heap.size]? = some (.cells #[.slice o1 n1 c1, .slice o2 n2 c2, .slice o3 n3 c3, .slice o4 n4 c4, .int .i64 x, .int .i64 y, .slice q1 m1 d1, .slice q2 m2 d2, .slice q3 m3 d3, .slice q4 m4 d4] 26 (0, 0))) := Lib.hid (by rw [hW0, Below.heap_alloc _ _ _ hK1]; exact hX1)
  have HR0 := Lib.hid R0
  have H1 := Lib.hid (N1 (w.heap.size + 1) W0)
  have H2 := Lib.hid (N2 (w.heap.size + 1) W0)
  have H3 := Lib.hid (N3 (w.heap.size + 1) W0)
  have H4 := Lib.hid (N4 (w.heap.size + 1) W0)
  have H5 := Lib.hid (N5 (w.heap.size + 1) W0)
  have H6 := Lib.hid (N6 (w.heap.size + 1) W0)
  have H7 := Lib.hid (N7 (w.heap.size + 1) W0)
  have H8 := Lib.hid (N8 (w.heap.size + 1) W0)
  have H9 := Lib.hid (N9 (w.heap.size + 1) W0)
  have H10 := Lib.hid (N10 (w.heap.size + 1) W0)
  have HSUM := Lib.hid fun (ga ca : Nat) (z : World) (hz : Rw w (w.heap.size + 1) W0 p10 ga ca z) => (by rw [hu10]; exact rsum_any w p10 _ z (bytesAt_own hz.own) hz.below (by omega) (by omega) : Calls Try.prog 24 #[.slice (some ⟨ga, 0, none⟩) u10 ca] z fun e z' => OwnB w (sealN p10) e z')
  subst hW0
  subst hW1
  have HU10 := Lib.hid hu10
  have HEND := Lib.hid hend
  clear N1 hu1 e1 hp1 l1 k1 N2 hu2 e2 hp2 l2 k2 N3 hu3 e3 hp3 l3 k3 N4 hu4 e4 hp4 l4 k4 N5 hu5 e5 hp5 l5 k5 N6 hu6 e6 hp6 l6 k6 N7 hu7 e7 hp7 l7 k7 N8 hu8 e8 hp8 l8 k8 N9 hu9 e9 hp9 l9 k9 N10 hu10 e10 hp10 l10 k10 l0 hp0 z1 z2 LE hend hO hb1 R0 hxe hye hX1 hK1 hs1
  unfold obCells
  go_enter Try.func10, Try.ntmps10
  go_wp2_with (first
    | (go_at_call 20; (with_reducible refine (H1.out _ _ _ HR0.out).mono ?_); rintro e z1 ⟨g1, cp1, rfl, hr⟩; have HR1 := Lib.hid hr; have hb := ten_keep hr hK0.out hX0.out; have y1_1 : z1.cell? ⟨w.heap.size, 1, none⟩ = some (.slice o2 n2 c2) := (by simp [World.cell?, hb]); have y1_2 : z1.cell? ⟨w.heap.size, 2, none⟩ = some (.slice o3 n3 c3) := (by simp [World.cell?, hb]); have y1_3 : z1.cell? ⟨w.heap.size, 3, none⟩ = some (.slice o4 n4 c4) := (by simp [World.cell?, hb]); have y1_4 : z1.cell? ⟨w.heap.size, 4, none⟩ = some (.int .i64 x) := (by simp [World.cell?, hb]); have y1_5 : z1.cell? ⟨w.heap.size, 5, none⟩ = some (.int .i64 y) := (by simp [World.cell?, hb]); have y1_6 : z1.cell? ⟨w.heap.size, 6, none⟩ = some (.slice q1 m1 d1) := (by simp [World.cell?, hb]); have y1_7 : z1.cell? ⟨w.heap.size, 7, none⟩ = some (.slice q2 m2 d2) := (by simp [World.cell?, hb]); have y1_8 : z1.cell? ⟨w.heap.size, 8, none⟩ = some (.slice q3 m3 d3) := (by simp [World.cell?, hb]); have y1_9 : z1.cell? ⟨w.heap.size, 9, none⟩ = some (.slice q4 m4 d4) := (by simp [World.cell?, hb]); clear hr hb)
    | (go_at_call 20; (with_reducible refine (H2.out _ _ _ HR1.out).mono ?_); rintro e z2 ⟨g2, cp2, rfl, hr⟩; have HR2 := Lib.hid hr; have hb := ten_keep hr hK0.out hX0.out; have y2_2 : z2.cell? ⟨w.heap.size, 2, none⟩ = some (.slice o3 n3 c3) := (by simp [World.cell?, hb]); have y2_3 : z2.cell? ⟨w.heap.size, 3, none⟩ = some (.slice o4 n4 c4) := (by simp [World.cell?, hb]); have y2_4 : z2.cell? ⟨w.heap.size, 4, none⟩ = some (.int .i64 x) := (by simp [World.cell?, hb]); have y2_5 : z2.cell? ⟨w.heap.size, 5, none⟩ = some (.int .i64 y) := (by simp [World.cell?, hb]); have y2_6 : z2.cell? ⟨w.heap.size, 6, none⟩ = some (.slice q1 m1 d1) := (by simp [World.cell?, hb]); have y2_7 : z2.cell? ⟨w.heap.size, 7, none⟩ = some (.slice q2 m2 d2) := (by simp [World.cell?, hb]); have y2_8 : z2.cell? ⟨w.heap.size, 8, none⟩ = some (.slice q3 m3 d3) := (by simp [World.cell?, hb]); have y2_9 : z2.cell? ⟨w.heap.size, 9, none⟩ = some (.slice q4 m4 d4) := (by simp [World.cell?, hb]); clear y1_1 y1_2 y1_3 y1_4 y1_5 y1_6 y1_7 y1_8 y1_9; clear hr hb)
    | (go_at_call 21; (with_reducible refine (H3.out _ _ _ HR2.out).mono ?_); rintro e z3 ⟨g3, cp3, rfl, hr⟩; have HR3 := Lib.hid hr; have hb := ten_keep hr hK0.out hX0.out; have y3_3 : z3.cell? ⟨w.heap.size, 3, none⟩ = some (.slice o4 n4 c4) := (by simp [World.cell?, hb]); have y3_4 : z3.cell? ⟨w.heap.size, 4, none⟩ = some (.int .i64 x) := (by simp [World.cell?, hb]); have y3_5 : z3.cell? ⟨w.heap.size, 5, none⟩ = some (.int .i64 y) := (by simp [World.cell?, hb]); have y3_6 : z3.cell? ⟨w.heap.size, 6, none⟩ = some (.slice q1 m1 d1) := (by simp [World.cell?, hb]); have y3_7 : z3.cell? ⟨w.heap.size, 7, none⟩ = some (.slice q2 m2 d2) := (by simp [World.cell?, hb]); have y3_8 : z3.cell? ⟨w.heap.size, 8, none⟩ = some (.slice q3 m3 d3) := (by simp [World.cell?, hb]); have y3_9 : z3.cell? ⟨w.heap.size, 9, none⟩ = some (.slice q4 m4 d4) := (by simp [World.cell?, hb]); clear y2_2 y2_3 y2_4 y2_5 y2_6 y2_7 y2_8 y2_9; clear hr hb)
    | (go_at_call 21; (with_reducible refine (H4.out _ _ _ HR3.out).mono ?_); rintro e z4 ⟨g4, cp4, rfl, hr⟩; have HR4 := Lib.hid hr; have hb := ten_keep hr hK0.out hX0.out; have y4_4 : z4.cell? ⟨w.heap.size, 4, none⟩ = some (.int .i64 x) := (by simp [World.cell?, hb]); have y4_5 : z4.cell? ⟨w.heap.size, 5, none⟩ = some (.int .i64 y) := (by simp [World.cell?, hb]); have y4_6 : z4.cell? ⟨w.heap.size, 6, none⟩ = some (.slice q1 m1 d1) := (by simp [World.cell?, hb]); have y4_7 : z4.cell? ⟨w.heap.size, 7, none⟩ = some (.slice q2 m2 d2) := (by simp [World.cell?, hb]); have y4_8 : z4.cell? ⟨w.heap.size, 8, none⟩ = some (.slice q3 m3 d3) := (by simp [World.cell?, hb]); have y4_9 : z4.cell? ⟨w.heap.size, 9, none⟩ = some (.slice q4 m4 d4) := (by simp [World.cell?, hb]); clear y3_3 y3_4 y3_5 y3_6 y3_7 y3_8 y3_9; clear hr hb)
    | (go_at_call 22; (with_reducible refine (H5.out _ _ _ HR4.out).mono ?_); rintro e z5 ⟨g5, cp5, rfl, hr⟩; have HR5 := Lib.hid hr; have hb := ten_keep hr hK0.out hX0.out; have y5_5 : z5.cell? ⟨w.heap.size, 5, none⟩ = some (.int .i64 y) := (by simp [World.cell?, hb]); have y5_6 : z5.cell? ⟨w.heap.size, 6, none⟩ = some (.slice q1 m1 d1) := (by simp [World.cell?, hb]); have y5_7 : z5.cell? ⟨w.heap.size, 7, none⟩ = some (.slice q2 m2 d2) := (by simp [World.cell?, hb]); have y5_8 : z5.cell? ⟨w.heap.size, 8, none⟩ = some (.slice q3 m3 d3) := (by simp [World.cell?, hb]); have y5_9 : z5.cell? ⟨w.heap.size, 9, none⟩ = some (.slice q4 m4 d4) := (by simp [World.cell?, hb]); clear y4_4 y4_5 y4_6 y4_7 y4_8 y4_9; clear hr hb)
    | (go_at_call 22; (with_reducible refine (H6.out _ _ _ HR5.out).mono ?_); rintro e z6 ⟨g6, cp6, rfl, hr⟩; have HR6 := Lib.hid hr; have hb := ten_keep hr hK0.out hX0.out; have y6_6 : z6.cell? ⟨w.heap.size, 6, none⟩ = some (.slice q1 m1 d1) := (by simp [World.cell?, hb]); have y6_7 : z6.cell? ⟨w.heap.size, 7, none⟩ = some (.slice q2 m2 d2) := (by simp [World.cell?, hb]); have y6_8 : z6.cell? ⟨w.heap.size, 8, none⟩ = some (.slice q3 m3 d3) := (by simp [World.cell?, hb]); have y6_9 : z6.cell? ⟨w.heap.size, 9, none⟩ = some (.slice q4 m4 d4) := (by simp [World.cell?, hb]); clear y5_5 y5_6 y5_7 y5_8 y5_9; clear hr hb)
    | (go_at_call 23; (with_reducible refine (H7.out _ _ _ HR6.out).mono ?_); rintro e z7 ⟨g7, cp7, rfl, hr⟩; have HR7 := Lib.hid hr; have hb := ten_keep hr hK0.out hX0.out; have y7_7 : z7.cell? ⟨w.heap.size, 7, none⟩ = some (.slice q2 m2 d2) := (by simp [World.cell?, hb]); have y7_8 : z7.cell? ⟨w.heap.size, 8, none⟩ = some (.slice q3 m3 d3) := (by simp [World.cell?, hb]); have y7_9 : z7.cell? ⟨w.heap.size, 9, none⟩ = some (.slice q4 m4 d4) := (by simp [World.cell?, hb]); clear y6_6 y6_7 y6_8 y6_9; clear hr hb)
    | (go_at_call 23; (with_reducible refine (H8.out _ _ _ HR7.out).mono ?_); rintro e z8 ⟨g8, cp8, rfl, hr⟩; have HR8 := Lib.hid hr; have hb := ten_keep hr hK0.out hX0.out; have y8_8 : z8.cell? ⟨w.heap.size, 8, none⟩ = some (.slice q3 m3 d3) := (by simp [World.cell?, hb]); have y8_9 : z8.cell? ⟨w.heap.size, 9, none⟩ = some (.slice q4 m4 d4) := (by simp [World.cell?, hb]); clear y7_7 y7_8 y7_9; clear hr hb)
    | (go_at_call 23; (with_reducible refine (H9.out _ _ _ HR8.out).mono ?_); rintro e z9 ⟨g9, cp9, rfl, hr⟩; have HR9 := Lib.hid hr; have hb := ten_keep hr hK0.out hX0.out; have y9_9 : z9.cell? ⟨w.heap.size, 9, none⟩ = some (.slice q4 m4 d4) := (by simp [World.cell?, hb]); clear y8_8 y8_9; clear hr hb)
    | (go_at_call 23; (with_reducible refine (H10.out _ _ _ HR9.out).mono ?_); rintro e z10 ⟨g10, cp10, rfl, hr⟩; have HR10 := Lib.hid hr; have hb := ten_keep hr hK0.out hX0.out; clear y9_9; clear hr hb)
    | (go_at_call 24; (with_reducible refine (HSUM.out _ _ _ HR10.out).mono ?_); rintro e z11 hfin; have HF := Lib.hid hfin; obtain ⟨g11, cp11, rfl, _⟩ := hfin))
  have hfin := HF.out
  go_ret
  unfold bytesO
  rw [← HEND.out]
  exact hfin
end Go.Proofs.Ytodblepbedhnnaa
