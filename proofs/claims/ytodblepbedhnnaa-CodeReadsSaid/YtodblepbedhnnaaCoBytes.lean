/- code.Bytes: an object's bytes. -/
import Derived.Test.YtodblepbedhnnaaCoSum
import Derived.Laws.MakeOwn
import Derived.Lib.AppendStr
import Derived.RangeFuncBox
import Derived.BigQuiet
namespace Go.Proofs.Ytodblepbedhnnaa
open Go.RowKit Co

attribute [local go_sem] Oper.semAt_some

theorem make_bytes (N : Nat) (hN : (N : Int) ≤ 1000000) (w : World) : (Instr.makeSlice 29 (.int .i64 0) (.int .i64 (N : Int))).run Try.prog w = .ok (.slice (some ⟨w.heap.size, 0, none⟩) 0 N) (w.alloc (.cells (madeCells #[.int .u8 0] N) 5)) := by
  obtain ⟨i, h1, h2, h3, h4⟩ := byte_parts
  have h := run_makeSlice (P := Try.prog) w 29 5 i (.int .u8 0) Try.underlying29 h1 h2 .i64 .i64 0 (N : Int) (by omega) (by omega) (by rw [h3]; omega) (by rw [h4]; omega) (by omega)
  rw [h3] at h
  simpa [Value.cells] using h
theorem rowB_mk {w0 Y : World} {X : Nat} {l : List UInt8} {g cap : Nat} {u : Value} (hb : Below w0.heap.size w0 Y) (hl : w0.heap.size ≤ X) (hX : Y.heap[X]? = some (.cells #[u] 29 (0, 0))) (ho : Y.ownsRow w0.heap.size 5 1 (.slice (some ⟨g, 0, none⟩) l.length cap) l.length (bc l)) :
    RowB w0 X l (Y.setCell ⟨X, 0, none⟩ (.slice (some ⟨g, 0, none⟩) l.length cap)) := by
  obtain ⟨hB, cur, hcur, h1, h2, h3, h4⟩ := own_at ho
  have hne : g ≠ X := fun e => by rw [e, hX] at hcur; injection hcur with hcur; injection hcur with _ hT; exact absurd hT (by decide)
  exact ⟨hb.setCell (p := ⟨X, 0, none⟩) hl _, hl, g, cap, set_heap hX 0 _, own_mk hB ((set_other hne).trans hcur) h1 h2 h3 h4 (bc_len l)⟩
theorem made_own (w0 w : World) (N : Nat) (hb : Below w0.heap.size w0 w) (hN : N ≤ 1000000) : (w.alloc (.cells (madeCells #[.int .u8 0] N) 5)).ownsRow w0.heap.size 5 1 (.slice (some ⟨w.heap.size, 0, none⟩) 0 N) 0 [] :=
  own_mk hb.size (heap_alloc_new w _) (Nat.zero_le _) (by unfold maxLen; omega) (by rw [← Array.length_toList, toList_madeCells_one, List.length_replicate]) (by simp) rfl
/-- the value of a call: bytes of its own -/
def OwnB (w0 : World) (l : List UInt8) (e : Ending) (w' : World) : Prop := ∃ g cap, e = .returned (.slice (some ⟨g, 0, none⟩) l.length cap) ∧ w'.ownsRow w0.heap.size 5 1 (.slice (some ⟨g, 0, none⟩) l.length cap) l.length (bc l) ∧ Below w0.heap.size w0 w'
theorem grown_keep {w Y : World} {r k : Nat} {o : Obj} (hg : w.grownBy Y (some r)) (hk : w.heap[k]? = some o) (hne : k ≠ r) : Y.heap[k]? = some o := (hg.block k (lt_of_heap hk) (fun e => hne (Option.some.inj e))).trans hk
theorem ten_cells {W : World} {B : Nat} {a0 a1 a2 a3 a4 a5 a6 a7 a8 a9 : Value} {T : TypeId} (h : W.heap[B]? = some (.cells #[a0, a1, a2, a3, a4, a5, a6, a7, a8, a9] T (0, 0))) : W.cell? ⟨B, 0, none⟩ = some a0 ∧ W.cell? ⟨B, 1, none⟩ = some a1 ∧ W.cell? ⟨B, 2, none⟩ = some a2 ∧ W.cell? ⟨B, 3, none⟩ = some a3 ∧ W.cell? ⟨B, 4, none⟩ = some a4 ∧ W.cell? ⟨B, 5, none⟩ = some a5 ∧ W.cell? ⟨B, 6, none⟩ = some a6 ∧ W.cell? ⟨B, 7, none⟩ = some a7 ∧ W.cell? ⟨B, 8, none⟩ = some a8 ∧ W.cell? ⟨B, 9, none⟩ = some a9 :=
  ⟨by simp [World.cell?, h], by simp [World.cell?, h], by simp [World.cell?, h], by simp [World.cell?, h], by simp [World.cell?, h], by simp [World.cell?, h], by simp [World.cell?, h], by simp [World.cell?, h], by simp [World.cell?, h], by simp [World.cell?, h]⟩
/-- what lies there once the row is made, and its box -/
theorem made_two (w w1 : World) (N : Nat) (hN : N ≤ 1000000) (hb : Below w.heap.size w w1) {o : Obj} (hX : w1.heap[w.heap.size]? = some o) :
    let W := (w1.alloc (.cells (madeCells #[.int .u8 0] N) 5)).alloc (.cells #[.slice (some ⟨w1.heap.size, 0, none⟩) 0 N] 29)
    W.heap[w1.heap.size + 1]? = some (.cells #[.slice (some ⟨w1.heap.size, 0, none⟩) 0 N] 29 (0, 0)) ∧ W.ownsRow w.heap.size 5 1 (.slice (some ⟨w1.heap.size, 0, none⟩) 0 N) 0 [] ∧ Below w.heap.size w W ∧ W.heap[w.heap.size]? = some o ∧ w.heap.size < w1.heap.size := by
  intro W
  have z1 : (w1.alloc (.cells (madeCells #[.int .u8 0] N) 5)).heap.size = w1.heap.size + 1 := World.size_alloc _ _
  have hl := lt_of_heap hX
  have h1 := heap_alloc_new (w1.alloc (.cells (madeCells #[.int .u8 0] N) 5)) (.cells #[.slice (some ⟨w1.heap.size, 0, none⟩) 0 N] 29)
  rw [z1] at h1
  have h2 := hb.alloc hb.size (.cells (madeCells #[.int .u8 0] N) 5)
  refine ⟨h1, (made_own w w1 N hb hN).alloc _, h2.alloc h2.size _, ?_, hl⟩
  rw [Below.heap_alloc _ _ _ (by rw [z1]; omega), Below.heap_alloc _ _ _ hl]
  exact hX
/-- the signs are there -/
theorem signs_put {w W Y : World} {X r g cap N : Nat} {o : Obj} (hX : W.heap[X]? = some (.cells #[.slice (some ⟨r, 0, none⟩) 0 N] 29 (0, 0))) (hb : Below w.heap.size w W) (hr : w.heap.size < r) (hXr : X = r + 1) (hO : W.heap[w.heap.size]? = some o)
    (ho : Y.ownsRow w.heap.size 5 1 (.slice (some ⟨g, 0, none⟩) 4 cap) 4 (bc signs)) (hg : W.grownBy Y (some r)) :
    PtI w X [] (Y.setCell ⟨X, 0, none⟩ (.slice (some ⟨g, 0, none⟩) 4 cap)) ∧ (Y.setCell ⟨X, 0, none⟩ (.slice (some ⟨g, 0, none⟩) 4 cap)).heap[w.heap.size]? = some o ∧ Y.cell? ⟨X, 0, none⟩ = some (.slice (some ⟨r, 0, none⟩) 0 N) ∧ Y.frozen? ⟨X, 0, none⟩ = false := by
  have hYX := grown_keep hg hX (by omega)
  have hYO := grown_keep hg hO (by omega)
  refine ⟨⟨rowB_mk (l := signs) (hb.grown hg hb.size (fun k e => by have := Option.some.inj e; omega)) (by omega) hYX ho, by simp [rowN, signs]⟩, (set_other (by omega)).trans hYO, by simp [World.cell?, hYX], by simp [World.frozen?, hYX]⟩
theorem rowN_enc (o : Ob) : rowN (numsO o) = signs ++ encO o := by
  have h1 : ∀ l : List Int, (l.map fold).flatMap numL = l.flatMap encN := fun l => by induction l with
    | nil => rfl
    | cons x l ih => rw [List.map_cons, List.flatMap_cons, List.flatMap_cons, ih]; rfl
  have h2 : ∀ l : List Six, (l.flatMap numsI).flatMap numL = l.flatMap encI := fun l => by induction l with
    | nil => rfl
    | cons x l ih => rw [List.flatMap_cons, List.flatMap_append, ih, List.flatMap_cons]; congr 1; simp [numsI, encI, encN]
  have h3 : ∀ l : List Int, (numsL l).flatMap numL = encL encN l := fun l => by unfold numsL encL; rw [List.flatMap_cons, h1]; rfl
  have h4 : ∀ l : List Six, (numsS l).flatMap numL = encL encI l := fun l => by unfold numsS encL; rw [List.flatMap_cons, h2]; rfl
  unfold rowN numsO numsA encO
  simp only [List.flatMap_append, h3, h4, List.flatMap_cons, List.flatMap_nil, List.append_assoc, List.append_nil]
  rfl
theorem bytesAt_own {w : World} {B g cap : Nat} {l : List UInt8} (h : w.ownsRow B 5 1 (.slice (some ⟨g, 0, none⟩) l.length cap) l.length (bc l)) : BytesAt w (.slice (some ⟨g, 0, none⟩) l.length cap) l := by
  obtain ⟨hB, cur, hc, h1, h2, h3, h4⟩ := own_at h
  refine slAt_some h1 h2 fun i hi x hx => ?_
  rw [Nat.zero_add, Nat.mul_one]
  have hz : (bc l)[i]? = some (.int .u8 (x.toNat : Int)) := by unfold bc; rw [List.getElem?_map, hx]; rfl
  rw [← h4, List.getElem?_take, if_pos hi, Array.getElem?_toList] at hz
  simp [World.cell?, hc, hz]
theorem own_below {w w' : World} {B g n cap : Nat} {xs : List Value} (hb : Below w.heap.size w w') (h : w.ownsRow B 5 1 (.slice (some ⟨g, 0, none⟩) n cap) n xs) : w'.ownsRow B 5 1 (.slice (some ⟨g, 0, none⟩) n cap) n xs := by
  obtain ⟨hB, cur, hc, h1, h2, h3, h4⟩ := own_at h
  exact own_mk hB ((hb.block _ (lt_of_heap hc)).trans hc) h1 h2 h3 h4 (by rw [h.1, Nat.mul_one])
theorem four_there {V : World} {B : Nat} {v0 v1 v2 v3 : Value} {T : TypeId} (h : V.heap[B]? = some (.cells #[v0, v1, v2, v3] T (0, 0))) : ∀ (j : Nat) (u : Value), [v0, v1, v2, v3][j]? = some u → V.drew.cell? ((⟨B, 0, none⟩ : Addr).add j) = some u := by
  intro j u hu
  have e : (⟨B, 0, none⟩ : Addr).add j = ⟨B, j, none⟩ := by unfold Addr.add; split <;> simp_all
  rw [e]
  have hh : V.drew.heap[B]? = some (.cells #[v0, v1, v2, v3] T (0, 0)) := h
  obtain ⟨⟨k0, k1, k2, k3⟩, _⟩ := cells_four hh
  match j, hu with
  | 0, hu => cases hu; exact k0
  | 1, hu => cases hu; exact k1
  | 2, hu => cases hu; exact k2
  | 3, hu => cases hu; exact k3
  | j + 4, hu => simp at hu
theorem rowN_len (o : Ob) (h : ObSmall o) {w0 w : World} {X : Nat} (hI : PtI w0 X (numsO o) w) : (rowN (numsO o)).length ≤ 300000 := by
  have h1 := hI.most
  have h2 : (numsO o).length ≤ 24000 := by
    unfold numsO
    simp only [List.length_append, numsA_len o, numsS_len]
    obtain ⟨h3, h4⟩ := h
    omega
  omega
set_option maxHeartbeats 16000000 in
set_option maxRecDepth 100000 in
theorem bytes_any (o : Ob) (s1 s2 s3 s4 t1 t2 t3 t4 : Value) (w : World) (hO : ObAt w s1 s2 s3 s4 t1 t2 t3 t4 o) (hok : o.ok) (hsm : ObSmall o) :
    Calls Try.prog 8 #[.agg (obCells s1 s2 s3 s4 o.cross o.flags t1 t2 t3 t4)] w fun e w' => OwnB w (bytesO o) e w' := by
  have SZ := fun (W : World) (hb : Below w.heap.size w W) => size_any o s1 s2 s3 s4 t1 t2 t3 t4 W (hO.below hb) hok hsm
  have WR := fun (X : Nat) (W : World) (hI : PtI w X [] W) => write_any 16 X w (PtI w X) (pt_taker w X) o s1 s2 s3 s4 t1 t2 t3 t4 hO hok hsm [] (by simp) W hI
  have RL := Lib.hid fun (X : Nat) (W : World) (hI : PtI w X (numsO o) W) => rowN_len o hsm hI
  obtain ⟨L, hL⟩ : ∃ L, L = rowN (numsO o) := ⟨_, rfl⟩
  rw [← hL] at RL
  have HLE := Lib.hid hL
  clear hL
  obtain ⟨S, hS⟩ : ∃ S, S = sumN L := ⟨_, rfl⟩
  have HSE := Lib.hid hS
  clear hS
  obtain ⟨o1, n1, c1, o2, n2, c2, o3, n3, c3, o4, n4, c4, q1, m1, d1, q2, m2, d2, q3, m3, d3, q4, m4, d4, rfl, rfl, rfl, rfl, rfl, rfl, rfl, rfl⟩ := obAt_slices hO
  have SZ := Lib.hid SZ
  have WR := Lib.hid WR
  have SM := Lib.hid hsm
  clear hO hok hsm
  unfold obCells at SZ WR ⊢
  obtain ⟨x, hxe⟩ : ∃ x, x = o.cross := ⟨_, rfl⟩
  obtain ⟨y, hye⟩ : ∃ y, y = o.flags := ⟨_, rfl⟩
  rw [← hxe, ← hye] at SZ WR
  rw [← hxe, ← hye]
  clear hxe hye
  have HB0 := Lib.hid ((Below.refl w.heap.size w).alloc (Nat.le_refl _) (.cells #[.slice o1 n1 c1, .slice o2 n2 c2, .slice o3 n3 c3, .slice o4 n4 c4, .int .i64 x, .int .i64 y, .slice q1 m1 d1, .slice q2 m2 d2, .slice q3 m3 d3, .slice q4 m4 d4] 26))
  have hX0 := Lib.hid (heap_alloc_new w (.cells #[.slice o1 n1 c1, .slice o2 n2 c2, .slice o3 n3 c3, .slice o4 n4 c4, .int .i64 x, .int .i64 y, .slice q1 m1 d1, .slice q2 m2 d2, .slice q3 m3 d3, .slice q4 m4 d4] 26))
  obtain ⟨N, hN⟩ : ∃ N, N = 8 + sizeN (numsO o) := ⟨_, rfl⟩
  rw [← hN] at SZ
  have HNE := Lib.hid hN
  clear hN
  go_enter Try.func8, Try.ntmps8
  obtain ⟨i, i2, i3, i4, i5⟩ := byte_parts
  go_wp2_with (first
    | (go_at_call 12; (with_reducible refine (SZ.out _ HB0.out).mono ?_); rintro e w1 ⟨rfl, hN, hb⟩; have HB1 := Lib.hid (HB0.out.trans (hb.mono HB0.out.size)); have hmk := make_bytes N (by have h9 := HNE.out; omega) w1; have hx1 := (hb.block _ (lt_of_heap hX0.out)).trans hX0.out; have MT := Lib.hid (made_two w w1 N (by have h9 := HNE.out; omega) HB1.out hx1); clear hN hb hx1)
    | (at_builtin; go_loud (refine Lib.wpList_append_own_string _ rfl (.tmp 8) (.const (.string ⟨#[65, 83, 84, 49]⟩)) 29 9 rfl w.heap.size 5 i Try.underlying29 Try.underlying9 i2 i3 i4 i5 _ 0 [] rfl MT.out.2.1 _ rfl (by decide) (by decide) MT.out.2.2.1.size ?_); intro v2 w2 ho hg hz; obtain ⟨g2, cap2, rfl⟩ := ownsRow_succ (k := 3) ho; have HP := Lib.hid (signs_put (g := g2) (cap := cap2) MT.out.1 MT.out.2.2.1 MT.out.2.2.2.2 rfl MT.out.2.2.2.1 ho hg); have k1 := HP.out.2.2.1; have k2 := HP.out.2.2.2; obtain ⟨z0, z1, z2, z3, z4, z5, z6, z7, z8, z9⟩ := ten_cells HP.out.2.1; clear ho hg hz)
    | (go_at_call 15; (with_reducible refine (WR.out _ _ HP.out.1).mono ?_); rintro e w3 ⟨rfl, hI, hF⟩; rw [List.nil_append] at hI; have HLL := Lib.hid (RL.out _ _ hI); have hR := hI.row; rw [← HLE.out] at hR; have HI := Lib.hid hR; obtain ⟨g4, cap4, hX4, hg4⟩ := hR.row; have HX4 := Lib.hid hX4; have HG4 := Lib.hid hg4; have r4 : w3.cell? ⟨w1.heap.size + 1, 0, none⟩ = some (.slice (some ⟨g4, 0, none⟩) L.length cap4) := (by simp [World.cell?, hX4]); have SU := Lib.hid (sum_any L _ w3 (bytesAt_own hg4) (by have := HLL.out; omega)); rw [← HSE.out] at SU; unfold fourV at SU; clear hI hF hR hX4 hg4 z0 z1 z2 z3 z4 z5 z6 z7 z8 z9 k1 k2)
    | (go_at_call 17; (with_reducible refine SU.out.mono ?_); rintro e w5 ⟨rfl, hb5⟩; have HB5 := Lib.hid hb5; have hX5 := (hb5.block _ (lt_of_heap HX4.out)).trans HX4.out; have HX5 := Lib.hid hX5; have r5 : w5.cell? ⟨w1.heap.size + 1, 0, none⟩ = some (.slice (some ⟨g4, 0, none⟩) L.length cap4) := (by simp [World.cell?, hX5]); clear hb5 hX5))
  obtain ⟨V, hV⟩ : ∃ V, V = w5.alloc (.cells #[.int .u8 ((S : Int) % 256), .int .u8 ((S : Int) / 256 % 256), .int .u8 ((S : Int) / 65536 % 256), .int .u8 ((S : Int) / 16777216)] 42) := ⟨_, rfl⟩
  have hz : w5.heap.size < V.heap.size := by rw [hV, World.size_alloc]; omega
  have HVB : Hid (Below w.heap.size w V) := Lib.hid (by rw [hV]; exact (HI.out.below.trans (HB5.out.mono HI.out.below.size)).alloc (Nat.le_trans HI.out.below.size HB5.out.size) _)
  have HGV : Hid (V.ownsRow w.heap.size 5 1 (.slice (some ⟨g4, 0, none⟩) L.length cap4) L.length (bc L)) := Lib.hid (by
    rw [hV]
    refine World.ownsRow.alloc (own_below HB5.out HG4.out) _)
  have r6 : V.cell? ⟨w1.heap.size + 1, 0, none⟩ = some (.slice (some ⟨g4, 0, none⟩) L.length cap4) := by
    have h := (Below.heap_alloc w5 (.cells #[.int .u8 ((S : Int) % 256), .int .u8 ((S : Int) / 256 % 256), .int .u8 ((S : Int) / 65536 % 256), .int .u8 ((S : Int) / 16777216)] 42) _ (lt_of_heap HX5.out)).trans HX5.out
    rw [← hV] at h
    simp [World.cell?, h]
  have HN4 : Hid (V.heap[w5.heap.size]? = some (.cells #[.int .u8 ((S : Int) % 256), .int .u8 ((S : Int) / 256 % 256), .int .u8 ((S : Int) / 65536 % 256), .int .u8 ((S : Int) / 16777216)] 42 (0, 0))) := Lib.hid (by rw [hV]; exact heap_alloc_new w5 _)
  rw [← hV]
  have HZ := Lib.hid hz
  clear hV r5 hz
  have d0 : ∀ W, W = V.drew → W.cell? ⟨w1.heap.size + 1, 0, none⟩ = some (.slice (some ⟨g4, 0, none⟩) L.length cap4) := fun W h => by rw [h]; exact r6
  have H4C := Lib.hid (four_there HN4.out)
  refine tail_by_quiet 2 (by kernel_rfl) (by kernel_rfl) ?_
  simp only [List.take_succ_cons, List.take_zero, List.drop_succ_cons, List.drop_zero]
  repeat (go_big_quiet_step (fail))
  refine wpQuiet_nil ?_
  go_wp2_with (at_builtin; (refine wpList_append_lies (w := _) rfl (.tmp 15) (.tmp 16) 29 rfl w.heap.size 5 i (.int .u8 0) 1 1 Try.underlying29 i2 i3 i4 i5 rfl (by decide) _ L.length (bc L) rfl HGV.out ⟨w5.heap.size, 0, none⟩ 4 4 [.int .u8 ((S : Int) % 256), .int .u8 ((S : Int) / 256 % 256), .int .u8 ((S : Int) / 65536 % 256), .int .u8 ((S : Int) / 16777216)] rfl rfl H4C.out (by simp [Value.oneCell']) (by decide) (by have := HLL.out; unfold maxLen; omega) (by have := HLL.out; omega) HVB.out.size _ rfl ?_); intro g6 cap6 Y ho hgr hw _; have HO := Lib.hid ho; have HGR := Lib.hid hgr; clear ho hgr hw)
  go_ret
  have hS : S < 4294967296 := by rw [HSE.out]; exact sumN_lt L
  have e1 : bytesO o = L ++ four S := by rw [HSE.out, HLE.out, rowN_enc]; rfl
  have e2 : bc (bytesO o) = bc L ++ (fourV S).toList := by rw [four_cells hS, e1]; unfold bc; rw [List.map_append]
  have e3 : (bytesO o).length = L.length + 4 := by rw [e1, List.length_append]; rfl
  refine ⟨g6, cap6, by rw [e3]; rfl, by rw [e3, e2]; exact HO.out, ?_⟩
  exact (HVB.out.drew).grown HGR.out HVB.out.size (fun k e => by
    have h1 := (own_at HGV.out).1
    have h2 : g4 = k := Option.some.inj e
    omega)
end Go.Proofs.Ytodblepbedhnnaa
