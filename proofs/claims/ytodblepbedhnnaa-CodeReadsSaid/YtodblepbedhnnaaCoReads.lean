/- The law CodeReads. -/
import Derived.Test.YtodblepbedhnnaaCoRObj
import Derived.Test.YtodblepbedhnnaaCoREq
namespace Go.Proofs.Ytodblepbedhnnaa
open Go.RowKit Co

attribute [local go_sem] Oper.semAt_some

theorem conv_fresh {w : World} {B g cap n : Nat} {l : List UInt8} (h : w.ownsRow B 5 1 (.slice (some ⟨g, 0, none⟩) l.length cap) l.length (bc l)) (hn : n = l.length) {W : World} (hW : ∀ k < w.heap.size, W.heap[k]? = w.heap[k]?) : (convert 29 9 (.slice (some ⟨g, 0, none⟩) n cap)).run Try.prog W = .ok (.string (str l)) W := by
  subst hn
  obtain ⟨hB, cur, hc, h1, h2, h3, h4⟩ := own_at h
  refine run_convert_bytes_back (P := Try.prog) W 29 9 5 ⟨g, 0, none⟩ cap l Try.underlying29 Try.underlying5 Try.underlying9 fun j hj => ?_
  have hz : (bc l)[j]? = some (.int .u8 (l[j].toNat : Int)) := by unfold bc; rw [List.getElem?_map, List.getElem?_eq_getElem hj]; rfl
  rw [← h4, List.getElem?_take, if_pos hj, Array.getElem?_toList] at hz
  have hc' := (hW g (lt_of_heap hc)).trans hc
  rw [Go.WideShapes.add_plain]
  simp [World.cell?, hc', hz]
/-- string(b) of what came in -/
theorem conv_at {w W : World} {b off cap n : Nat} {l : List UInt8} (hn : n = l.length) (hc : ∀ i, i < l.length → ∀ x, l[i]? = some x → w.cell? ⟨b, off + i * 1, none⟩ = some (.int .u8 (x.toNat : Int))) (hb : Below w.heap.size w W) : (convert 29 9 (.slice (some ⟨b, off, none⟩) n cap)).run Try.prog W = .ok (.string (str l)) W := by
  subst hn
  refine run_convert_bytes_back (P := Try.prog) W 29 9 5 ⟨b, off, none⟩ cap l Try.underlying29 Try.underlying5 Try.underlying9 fun j hj => ?_
  have h := cell_on hb (hc j hj _ (List.getElem?_eq_getElem hj))
  rw [Nat.mul_one] at h
  rw [Go.WideShapes.add_plain]
  exact h
theorem flat_leastK {α : Type} {k : Nat} {f : α → List UInt8} (hf : ∀ x, k ≤ (f x).length) : ∀ l : List α, l.length * k ≤ (l.flatMap f).length
  | [] => by simp
  | x :: l => by
    have h1 := flat_leastK hf l
    have h2 := hf x
    rw [List.flatMap_cons, List.length_append, List.length_cons, Nat.add_mul]
    omega
theorem encN_pos (v : Int) : 1 ≤ (encN v).length := numL_pos _
theorem encL_least {α : Type} {k : Nat} {f : α → List UInt8} (hf : ∀ x, k ≤ (f x).length) (l : List α) : l.length * k ≤ (encL f l).length := by
  have h := flat_leastK hf l
  unfold encL
  rw [List.length_append]
  omega
theorem small_of {o : Ob} (h : (bytesO o).length ≤ 5000) : ObSmall o := by
  have e0 : (bytesO o).length = 8 + (encO o).length := by unfold bytesO sealN four signs; simp only [List.length_append, List.length_cons, List.length_nil]; omega
  have e6 : ∀ x, 6 ≤ (encI x).length := fun x => by
    have h1 := encN_pos x.op
    have h2 := encN_pos x.d
    have h3 := encN_pos x.a
    have h4 := encN_pos x.b
    have h5 := encN_pos x.c
    have h6 := encN_pos x.v
    unfold encI
    simp only [List.length_append]
    omega
  have a1 := encL_least encN_pos o.inn
  have a2 := encL_least encN_pos o.out
  have a3 := encL_least encN_pos o.state
  have a4 := encL_least encN_pos o.mem
  have a5 := encL_least e6 o.deriv
  have a6 := encL_least e6 o.zero
  have a7 := encL_least e6 o.step
  have a8 := encL_least e6 o.at_
  have e1 : (encO o).length = (encL encN o.inn).length + ((encL encN o.out).length + ((encL encN o.state).length + ((encL encN o.mem).length + ((encN o.cross).length + ((encN o.flags).length + ((encL encI o.deriv).length + ((encL encI o.zero).length + ((encL encI o.step).length + (encL encI o.at_).length)))))))) := by
    unfold encO
    simp only [List.length_append]
  unfold ObSmall
  omega
def noOb : Ob := ⟨[], [], [], [], 0, 0, [], [], [], []⟩
theorem noOb_at (w : World) : ObAt w (.slice none 0 0) (.slice none 0 0) (.slice none 0 0) (.slice none 0 0) (.slice none 0 0) (.slice none 0 0) (.slice none 0 0) (.slice none 0 0) noOb := by
  have hi : IntsAt w (.slice none 0 0) [] := slAt_none _ _ _ _ _ ⟨Nat.zero_le _, fun _ => rfl⟩ rfl
  have hs : SixesAt w (.slice none 0 0) [] := slAt_none _ _ _ _ _ ⟨Nat.zero_le _, fun _ => rfl⟩ rfl
  exact ⟨hi, hi, hi, hi, hs, hs, hs, hs⟩
theorem noOb_ok : noOb.ok := by
  have hi : intsOk [] := ⟨by simp, by simp⟩
  have hs : sixOk [] := ⟨by simp, by simp⟩
  exact ⟨hi, hi, hi, hi, ⟨by decide, by decide⟩, ⟨by decide, by decide⟩, hs, hs, hs, hs⟩
theorem box_seen {W : World} {cs : Array Value} {T : TypeId} {B j : Nat} {u : Value} (h : W.heap[B]? = some (.cells cs T (0, 0))) (hu : cs[j]? = some u) : W.cell? ⟨B, j, none⟩ = some u := by simp [World.cell?, h, hu]
set_option maxHeartbeats 32000000 in
set_option maxRecDepth 100000 in
theorem reads_none (v : Value) (l : List UInt8) (w : World) (hv : BytesAt w v l) (hl : l.length ≤ 5000) (hob : objOf l = none) :
    Calls Try.prog 4 #[v] w fun e w' => e = .returned (.bool true) ∧ Below w.heap.size w w' := by
  have OB := fun (W : World) (hb : Below w.heap.size w W) => obj_any v l W (hv.below hb) (by omega)
  have RO := fun (W : World) (hb : Below w.heap.size w W) => robj_any v l W (hv.below hb) hl
  rw [hob] at OB RO
  unfold ObjPost obCells at OB RO
  replace OB := Lib.hid OB
  replace RO := Lib.hid RO
  have EQ := Lib.hid (fun (W : World) => req_any noOb noOb _ _ _ _ _ _ _ _ _ _ _ _ _ _ _ _ W (noOb_at W) (noOb_at W) noOb_ok noOb_ok)
  unfold obCells at EQ
  have z1 : noOb.cross = 0 := rfl
  have z2 : noOb.flags = 0 := rfl
  rw [z1, z2] at EQ
  simp only [decide_true] at EQ
  have AL := Lib.hid alive_any
  obtain ⟨o, cap, b, off, rfl, _⟩ := hv
  obtain ⟨n, hn⟩ : ∃ n, n = l.length := ⟨_, rfl⟩
  rw [← hn] at hl OB RO ⊢
  have hnl : ¬ (5000 : Int) < (n : Int) := by omega
  have hn5 : (n : Int) ≤ 5000 := by omega
  clear hn hob z1 z2 hl
  go_enter Try.func4, Try.ntmps4
  go_upto_region 7 with (first
    | (go_at_call 6; (with_reducible refine (AL.out _).mono ?_); rintro e w1 ⟨rfl, hb⟩; have HB1 := Lib.hid hb; clear hb)
    | (go_at_call 9; (with_reducible refine (OB.out _ HB1.out).mono ?_); rintro e w2 ⟨hb, rfl⟩; have HB2 := Lib.hid (HB1.out.trans (hb.mono HB1.out.size)); have HB3 := Lib.hid (HB2.out.alloc HB2.out.size (.cells #[.slice none 0 0, .slice none 0 0, .slice none 0 0, .slice none 0 0, .int .i64 0, .int .i64 0, .slice none 0 0, .slice none 0 0, .slice none 0 0, .slice none 0 0] 26)); have HE3 := Lib.hid (heap_alloc_new w2 (.cells #[.slice none 0 0, .slice none 0 0, .slice none 0 0, .slice none 0 0, .int .i64 0, .int .i64 0, .slice none 0 0, .slice none 0 0, .slice none 0 0, .slice none 0 0] 26)); clear hb)
    | (go_at_call 14; (with_reducible refine (RO.out _ HB3.out).mono ?_); rintro e w4 ⟨hb, rfl⟩; have HB4 := Lib.hid (HB3.out.trans (hb.mono HB3.out.size)); have HE4 := Lib.hid ((hb.block _ (lt_of_heap HE3.out)).trans HE3.out); clear hb))
  have HB5 := Lib.hid (HB4.out.alloc HB4.out.size (.cells #[.slice none 0 0, .slice none 0 0, .slice none 0 0, .slice none 0 0, .int .i64 0, .int .i64 0, .slice none 0 0, .slice none 0 0, .slice none 0 0, .slice none 0 0] 26))
  have HF5 := Lib.hid (heap_alloc_new w4 (.cells #[.slice none 0 0, .slice none 0 0, .slice none 0 0, .slice none 0 0, .int .i64 0, .int .i64 0, .slice none 0 0, .slice none 0 0, .slice none 0 0, .slice none 0 0] 26))
  have HE5 := Lib.hid ((Below.heap_alloc w4 (.cells #[.slice none 0 0, .slice none 0 0, .slice none 0 0, .slice none 0 0, .int .i64 0, .int .i64 0, .slice none 0 0, .slice none 0 0, .slice none 0 0, .slice none 0 0] 26) _ (lt_of_heap HE4.out)).trans HE4.out)
  obtain ⟨X, hX⟩ : ∃ X, X = w4.alloc (.cells #[.slice none 0 0, .slice none 0 0, .slice none 0 0, .slice none 0 0, .int .i64 0, .int .i64 0, .slice none 0 0, .slice none 0 0, .slice none 0 0, .slice none 0 0] 26) := ⟨_, rfl⟩
  rw [← hX] at HB5 HF5 HE5 ⊢
  clear hX
  have E0 := fun pr : Regrown => cell_regrown (box_seen (j := 0) (u := .slice none 0 0) HE5.out rfl) pr.d pr.os
  have F0 := fun pr : Regrown => cell_regrown (box_seen (j := 0) (u := .slice none 0 0) HF5.out rfl) pr.d pr.os
  have E1 := fun pr : Regrown => cell_regrown (box_seen (j := 1) (u := .slice none 0 0) HE5.out rfl) pr.d pr.os
  have F1 := fun pr : Regrown => cell_regrown (box_seen (j := 1) (u := .slice none 0 0) HF5.out rfl) pr.d pr.os
  have E2 := fun pr : Regrown => cell_regrown (box_seen (j := 2) (u := .slice none 0 0) HE5.out rfl) pr.d pr.os
  have F2 := fun pr : Regrown => cell_regrown (box_seen (j := 2) (u := .slice none 0 0) HF5.out rfl) pr.d pr.os
  have E3 := fun pr : Regrown => cell_regrown (box_seen (j := 3) (u := .slice none 0 0) HE5.out rfl) pr.d pr.os
  have F3 := fun pr : Regrown => cell_regrown (box_seen (j := 3) (u := .slice none 0 0) HF5.out rfl) pr.d pr.os
  have E4 := fun pr : Regrown => cell_regrown (box_seen (j := 4) (u := .int .i64 0) HE5.out rfl) pr.d pr.os
  have F4 := fun pr : Regrown => cell_regrown (box_seen (j := 4) (u := .int .i64 0) HF5.out rfl) pr.d pr.os
  have E5 := fun pr : Regrown => cell_regrown (box_seen (j := 5) (u := .int .i64 0) HE5.out rfl) pr.d pr.os
  have F5 := fun pr : Regrown => cell_regrown (box_seen (j := 5) (u := .int .i64 0) HF5.out rfl) pr.d pr.os
  have E6 := fun pr : Regrown => cell_regrown (box_seen (j := 6) (u := .slice none 0 0) HE5.out rfl) pr.d pr.os
  have F6 := fun pr : Regrown => cell_regrown (box_seen (j := 6) (u := .slice none 0 0) HF5.out rfl) pr.d pr.os
  have E7 := fun pr : Regrown => cell_regrown (box_seen (j := 7) (u := .slice none 0 0) HE5.out rfl) pr.d pr.os
  have F7 := fun pr : Regrown => cell_regrown (box_seen (j := 7) (u := .slice none 0 0) HF5.out rfl) pr.d pr.os
  have E8 := fun pr : Regrown => cell_regrown (box_seen (j := 8) (u := .slice none 0 0) HE5.out rfl) pr.d pr.os
  have F8 := fun pr : Regrown => cell_regrown (box_seen (j := 8) (u := .slice none 0 0) HF5.out rfl) pr.d pr.os
  have E9 := fun pr : Regrown => cell_regrown (box_seen (j := 9) (u := .slice none 0 0) HE5.out rfl) pr.d pr.os
  have F9 := fun pr : Regrown => cell_regrown (box_seen (j := 9) (u := .slice none 0 0) HF5.out rfl) pr.d pr.os
  have CQ := Lib.hid fun pr : Regrown => Calls.regrown_of (EQ.out (Go.Sort.grow (redrawn X pr.d) pr.os))
  refine wp_region_quiet_below (by kernel_rfl) (by kernel_rfl) ?_
  repeat (go_big_quiet_step (with_reducible exact CQ.out _))
  refine wpQuiet_nil ?_
  intro w6 hw6
  have HB6 : Hid (Below X.heap.size X w6) := Lib.hid (by obtain ⟨pr, rfl⟩ := hw6; exact below_regrown _ _ _)
  clear hw6 CQ E0 F0 E1 F1 E2 F2 E3 F3 E4 F4 E5 F5 E6 F6 E7 F7 E8 F8 E9 F9
  go_wp2_with fail
  go_ret
  exact ⟨rfl, HB5.out.trans (HB6.out.mono HB5.out.size)⟩
set_option maxHeartbeats 32000000 in
set_option maxRecDepth 100000 in
theorem reads_some (v : Value) (l : List UInt8) (w : World) (hv : BytesAt w v l) (hl : l.length ≤ 5000) (p : Ob) (hob : objOf l = some p) :
    Calls Try.prog 4 #[v] w fun e w' => e = .returned (.bool true) ∧ Below w.heap.size w w' := by
  obtain ⟨hbo, kp⟩ := bytes_objOf hob
  have hsm : ObSmall p := small_of (by rw [← hbo]; exact hl)
  have OB := fun (W : World) (hb : Below w.heap.size w W) => obj_any v l W (hv.below hb) (by omega)
  have RO := fun (W : World) (hb : Below w.heap.size w W) => robj_any v l W (hv.below hb) hl
  have EQ := fun (x1 x2 x3 x4 y1 y2 y3 y4 u1 u2 u3 u4 v1 v2 v3 v4 : Value) (W : World) (h1 : ObAt W x1 x2 x3 x4 y1 y2 y3 y4 p) (h2 : ObAt W u1 u2 u3 u4 v1 v2 v3 v4 p) => req_any p p x1 x2 x3 x4 y1 y2 y3 y4 u1 u2 u3 u4 v1 v2 v3 v4 W h1 h2 kp kp
  have BY := fun (x1 x2 x3 x4 y1 y2 y3 y4 : Value) (W : World) (h1 : ObAt W x1 x2 x3 x4 y1 y2 y3 y4 p) => bytes_any p x1 x2 x3 x4 y1 y2 y3 y4 W h1 kp hsm
  rw [hob] at OB RO
  rw [← hbo] at BY
  have hpos : 0 < l.length := by rw [hbo]; have := bytesO_eight p; omega
  unfold ObjPost obCells at OB RO
  unfold obCells at EQ BY
  simp only [decide_true] at EQ
  unfold OwnB at BY
  obtain ⟨px, hpx⟩ : ∃ x, x = p.cross := ⟨_, rfl⟩
  obtain ⟨pf, hpf⟩ : ∃ x, x = p.flags := ⟨_, rfl⟩
  simp only [← hpx, ← hpf] at OB RO EQ BY
  replace OB := Lib.hid OB
  replace RO := Lib.hid RO
  replace EQ := Lib.hid EQ
  replace BY := Lib.hid BY
  have AL := Lib.hid alive_any
  obtain ⟨o, cap, b, off, rfl, _, _, he, hc⟩ := hv
  obtain rfl := he hpos
  have HC := Lib.hid hc
  obtain ⟨n, hn⟩ : ∃ n, n = l.length := ⟨_, rfl⟩
  rw [← hn] at hl OB RO BY ⊢
  have HN := Lib.hid hn
  have hnl : ¬ (5000 : Int) < (n : Int) := by omega
  have hn5 : (n : Int) ≤ 5000 := by omega
  clear hn hob hl hbo hsm kp he hc hpos hpx hpf
  go_enter Try.func4, Try.ntmps4
  go_upto_region 7 with (first
    | (go_at_call 6; (with_reducible refine (AL.out _).mono ?_); rintro e w1 ⟨rfl, hb⟩; have HB1 := Lib.hid hb; clear hb)
    | (go_at_call 9; (with_reducible refine (OB.out _ HB1.out).mono ?_); rintro e w2 ⟨hb, x1, x2, x3, x4, y1, y2, y3, y4, rfl, hO⟩; obtain ⟨ao1, an1, ac1, ao2, an2, ac2, ao3, an3, ac3, ao4, an4, ac4, aq1, am1, ad1, aq2, am2, ad2, aq3, am3, ad3, aq4, am4, ad4, rfl, rfl, rfl, rfl, rfl, rfl, rfl, rfl⟩ := obAt_slices hO; have HB2 := Lib.hid (HB1.out.trans (hb.mono HB1.out.size)); have HB3 := Lib.hid (HB2.out.alloc HB2.out.size (.cells #[.slice ao1 an1 ac1, .slice ao2 an2 ac2, .slice ao3 an3 ac3, .slice ao4 an4 ac4, .int .i64 px, .int .i64 pf, .slice aq1 am1 ad1, .slice aq2 am2 ad2, .slice aq3 am3 ad3, .slice aq4 am4 ad4] 26)); have HE3 := Lib.hid (heap_alloc_new w2 (.cells #[.slice ao1 an1 ac1, .slice ao2 an2 ac2, .slice ao3 an3 ac3, .slice ao4 an4 ac4, .int .i64 px, .int .i64 pf, .slice aq1 am1 ad1, .slice aq2 am2 ad2, .slice aq3 am3 ad3, .slice aq4 am4 ad4] 26)); have HO3 := Lib.hid (hO.below ((Below.refl _ w2).alloc (Nat.le_refl _) (.cells #[.slice ao1 an1 ac1, .slice ao2 an2 ac2, .slice ao3 an3 ac3, .slice ao4 an4 ac4, .int .i64 px, .int .i64 pf, .slice aq1 am1 ad1, .slice aq2 am2 ad2, .slice aq3 am3 ad3, .slice aq4 am4 ad4] 26))); clear hb hO)
    | (go_at_call 14; (with_reducible refine (RO.out _ HB3.out).mono ?_); rintro e w4 ⟨hb, x1, x2, x3, x4, y1, y2, y3, y4, rfl, hO⟩; obtain ⟨bo1, bn1, bc1, bo2, bn2, bc2, bo3, bn3, bc3, bo4, bn4, bc4, bq1, bm1, bd1, bq2, bm2, bd2, bq3, bm3, bd3, bq4, bm4, bd4, rfl, rfl, rfl, rfl, rfl, rfl, rfl, rfl⟩ := obAt_slices hO; have HB4 := Lib.hid (HB3.out.trans (hb.mono HB3.out.size)); have HE4 := Lib.hid ((hb.block _ (lt_of_heap HE3.out)).trans HE3.out); have HA4 := Lib.hid (HO3.out.below hb); have HO4 := Lib.hid hO; clear hb hO))
  have HB5 := Lib.hid (HB4.out.alloc HB4.out.size (.cells #[.slice bo1 bn1 bc1, .slice bo2 bn2 bc2, .slice bo3 bn3 bc3, .slice bo4 bn4 bc4, .int .i64 px, .int .i64 pf, .slice bq1 bm1 bd1, .slice bq2 bm2 bd2, .slice bq3 bm3 bd3, .slice bq4 bm4 bd4] 26))
  have HF5 := Lib.hid (heap_alloc_new w4 (.cells #[.slice bo1 bn1 bc1, .slice bo2 bn2 bc2, .slice bo3 bn3 bc3, .slice bo4 bn4 bc4, .int .i64 px, .int .i64 pf, .slice bq1 bm1 bd1, .slice bq2 bm2 bd2, .slice bq3 bm3 bd3, .slice bq4 bm4 bd4] 26))
  have HE5 := Lib.hid ((Below.heap_alloc w4 (.cells #[.slice bo1 bn1 bc1, .slice bo2 bn2 bc2, .slice bo3 bn3 bc3, .slice bo4 bn4 bc4, .int .i64 px, .int .i64 pf, .slice bq1 bm1 bd1, .slice bq2 bm2 bd2, .slice bq3 bm3 bd3, .slice bq4 bm4 bd4] 26) _ (lt_of_heap HE4.out)).trans HE4.out)
  have HA5 := Lib.hid (HA4.out.below ((Below.refl _ w4).alloc (Nat.le_refl _) (.cells #[.slice bo1 bn1 bc1, .slice bo2 bn2 bc2, .slice bo3 bn3 bc3, .slice bo4 bn4 bc4, .int .i64 px, .int .i64 pf, .slice bq1 bm1 bd1, .slice bq2 bm2 bd2, .slice bq3 bm3 bd3, .slice bq4 bm4 bd4] 26)))
  have HO5 := Lib.hid (HO4.out.below ((Below.refl _ w4).alloc (Nat.le_refl _) (.cells #[.slice bo1 bn1 bc1, .slice bo2 bn2 bc2, .slice bo3 bn3 bc3, .slice bo4 bn4 bc4, .int .i64 px, .int .i64 pf, .slice bq1 bm1 bd1, .slice bq2 bm2 bd2, .slice bq3 bm3 bd3, .slice bq4 bm4 bd4] 26)))
  obtain ⟨X, hX⟩ : ∃ X, X = w4.alloc (.cells #[.slice bo1 bn1 bc1, .slice bo2 bn2 bc2, .slice bo3 bn3 bc3, .slice bo4 bn4 bc4, .int .i64 px, .int .i64 pf, .slice bq1 bm1 bd1, .slice bq2 bm2 bd2, .slice bq3 bm3 bd3, .slice bq4 bm4 bd4] 26) := ⟨_, rfl⟩
  obtain ⟨E, hE⟩ : ∃ E, E = w2.heap.size := ⟨_, rfl⟩
  obtain ⟨F, hF⟩ : ∃ F, F = w4.heap.size := ⟨_, rfl⟩
  rw [← hX] at HB5 HF5 HE5 HA5 HO5 ⊢
  rw [← hE] at HE5 ⊢
  rw [← hF] at HF5 ⊢
  clear hX hE hF HE3 HE4 HO3 HA4 HO4 HB1 HB2 HB3 HB4 OB RO AL
  have hb0 : Below X.heap.size X X.drew := ⟨rfl, rfl, rfl, Nat.le_refl _, fun _ _ => rfl⟩
  have CV : Hid (∀ W, Below X.heap.size X W → (convert 29 9 (.slice (some ⟨b, off, none⟩) n cap)).run Try.prog W = .ok (.string (str l)) W) := Lib.hid fun W h => conv_at HN.out HC.out (HB5.out.trans (h.mono HB5.out.size))
  have SX : Hid (∀ w', Below X.heap.size X w' → Below X.heap.size X w' ∧ (w'.cell? ⟨E, 0, none⟩ = some (.slice ao1 an1 ac1) ∧ w'.cell? ⟨E, 1, none⟩ = some (.slice ao2 an2 ac2) ∧ w'.cell? ⟨E, 2, none⟩ = some (.slice ao3 an3 ac3) ∧ w'.cell? ⟨E, 3, none⟩ = some (.slice ao4 an4 ac4) ∧ w'.cell? ⟨E, 4, none⟩ = some (.int .i64 px) ∧ w'.cell? ⟨E, 5, none⟩ = some (.int .i64 pf) ∧ w'.cell? ⟨E, 6, none⟩ = some (.slice aq1 am1 ad1) ∧ w'.cell? ⟨E, 7, none⟩ = some (.slice aq2 am2 ad2) ∧ w'.cell? ⟨E, 8, none⟩ = some (.slice aq3 am3 ad3) ∧ w'.cell? ⟨E, 9, none⟩ = some (.slice aq4 am4 ad4)) ∧ (w'.cell? ⟨F, 0, none⟩ = some (.slice bo1 bn1 bc1) ∧ w'.cell? ⟨F, 1, none⟩ = some (.slice bo2 bn2 bc2) ∧ w'.cell? ⟨F, 2, none⟩ = some (.slice bo3 bn3 bc3) ∧ w'.cell? ⟨F, 3, none⟩ = some (.slice bo4 bn4 bc4) ∧ w'.cell? ⟨F, 4, none⟩ = some (.int .i64 px) ∧ w'.cell? ⟨F, 5, none⟩ = some (.int .i64 pf) ∧ w'.cell? ⟨F, 6, none⟩ = some (.slice bq1 bm1 bd1) ∧ w'.cell? ⟨F, 7, none⟩ = some (.slice bq2 bm2 bd2) ∧ w'.cell? ⟨F, 8, none⟩ = some (.slice bq3 bm3 bd3) ∧ w'.cell? ⟨F, 9, none⟩ = some (.slice bq4 bm4 bd4)) ∧ (convert 29 9 (.slice (some ⟨b, off, none⟩) n cap)).run Try.prog w' = .ok (.string (str l)) w') := Lib.hid fun w' h => ⟨h, box_cells HE5.out h, box_cells HF5.out h, CV.out w' h⟩
  have BY6 : Hid (∀ W, Below X.heap.size X W → Calls Try.prog 8 #[.agg #[.slice ao1 an1 ac1, .slice ao2 an2 ac2, .slice ao3 an3 ac3, .slice ao4 an4 ac4, .int .i64 px, .int .i64 pf, .slice aq1 am1 ad1, .slice aq2 am2 ad2, .slice aq3 am3 ad3, .slice aq4 am4 ad4]] W fun e w' => ∃ g2 cap2, e = .returned (.slice (some ⟨g2, 0, none⟩) n cap2) ∧ (convert 29 9 (.slice (some ⟨g2, 0, none⟩) n cap2)).run Try.prog w' = .ok (.string (str l)) w' ∧ Below X.heap.size X w') := Lib.hid fun W h => (BY.out _ _ _ _ _ _ _ _ W (HA5.out.below h)).mono fun e w' ⟨g2, cap2, h1, h2, h3⟩ => ⟨g2, cap2, h1, conv_fresh (by rw [HN.out] at h2; exact h2) HN.out fun _ _ => rfl, h.trans (h3.mono h.size)⟩
  have EQ6 : Hid (∀ W, Below X.heap.size X W → Calls Try.prog 11 #[.agg #[.slice ao1 an1 ac1, .slice ao2 an2 ac2, .slice ao3 an3 ac3, .slice ao4 an4 ac4, .int .i64 px, .int .i64 pf, .slice aq1 am1 ad1, .slice aq2 am2 ad2, .slice aq3 am3 ad3, .slice aq4 am4 ad4], .agg #[.slice bo1 bn1 bc1, .slice bo2 bn2 bc2, .slice bo3 bn3 bc3, .slice bo4 bn4 bc4, .int .i64 px, .int .i64 pf, .slice bq1 bm1 bd1, .slice bq2 bm2 bd2, .slice bq3 bm3 bd3, .slice bq4 bm4 bd4]] W fun e w' => e = .returned (.bool true) ∧ Below X.heap.size X w') := Lib.hid fun W h => (EQ.out _ _ _ _ _ _ _ _ _ _ _ _ _ _ _ _ W (HA5.out.below h) (HO5.out.below h)).mono fun e w' hh => ⟨hh.1, h.trans (hh.2.mono h.size)⟩
  clear CV HE5 HF5 HA5 HO5 EQ BY HC
  go_region_held (fun w' => Below X.heap.size X w' ∧ (w'.cell? ⟨E, 0, none⟩ = some (.slice ao1 an1 ac1) ∧ w'.cell? ⟨E, 1, none⟩ = some (.slice ao2 an2 ac2) ∧ w'.cell? ⟨E, 2, none⟩ = some (.slice ao3 an3 ac3) ∧ w'.cell? ⟨E, 3, none⟩ = some (.slice ao4 an4 ac4) ∧ w'.cell? ⟨E, 4, none⟩ = some (.int .i64 px) ∧ w'.cell? ⟨E, 5, none⟩ = some (.int .i64 pf) ∧ w'.cell? ⟨E, 6, none⟩ = some (.slice aq1 am1 ad1) ∧ w'.cell? ⟨E, 7, none⟩ = some (.slice aq2 am2 ad2) ∧ w'.cell? ⟨E, 8, none⟩ = some (.slice aq3 am3 ad3) ∧ w'.cell? ⟨E, 9, none⟩ = some (.slice aq4 am4 ad4)) ∧ (w'.cell? ⟨F, 0, none⟩ = some (.slice bo1 bn1 bc1) ∧ w'.cell? ⟨F, 1, none⟩ = some (.slice bo2 bn2 bc2) ∧ w'.cell? ⟨F, 2, none⟩ = some (.slice bo3 bn3 bc3) ∧ w'.cell? ⟨F, 3, none⟩ = some (.slice bo4 bn4 bc4) ∧ w'.cell? ⟨F, 4, none⟩ = some (.int .i64 px) ∧ w'.cell? ⟨F, 5, none⟩ = some (.int .i64 pf) ∧ w'.cell? ⟨F, 6, none⟩ = some (.slice bq1 bm1 bd1) ∧ w'.cell? ⟨F, 7, none⟩ = some (.slice bq2 bm2 bd2) ∧ w'.cell? ⟨F, 8, none⟩ = some (.slice bq3 bm3 bd3) ∧ w'.cell? ⟨F, 9, none⟩ = some (.slice bq4 bm4 bd4)) ∧ (convert 29 9 (.slice (some ⟨b, off, none⟩) n cap)).run Try.prog w' = .ok (.string (str l)) w')
    (first | exact SX.out _ hb0 | exact SX.out _ hb7 | exact SX.out _ hb8)
    (first | (go_at_call 11; (with_reducible refine (EQ6.out _ hb0).mono ?_); rintro e w7 ⟨rfl, hb7⟩)
           | (go_at_call 8; (with_reducible refine (BY6.out _ hb7).mono ?_); rintro e w8 ⟨g2, cap2, rfl, cv2, hb8⟩))
  all_goals (go_wp2_with fail)
  all_goals (go_ret; exact ⟨rfl, HB5.out.trans (hb8.mono HB5.out.size)⟩)
set_option maxHeartbeats 32000000 in
set_option maxRecDepth 100000 in
theorem reads_any (v : Value) (l : List UInt8) (w : World) (hv : BytesAt w v l) (hl : l.length ≤ reachN) :
    Calls Try.prog 4 #[v] w fun e w' => e = .returned (.bool true) ∧ Below w.heap.size w w' := by
  rcases Nat.lt_or_ge 5000 l.length with h5 | h5
  · have AL := Lib.hid alive_any
    obtain ⟨o, cap, b, off, rfl, _⟩ := hv
    obtain ⟨n, hn⟩ : ∃ n, n = l.length := ⟨_, rfl⟩
    rw [← hn] at hl h5 ⊢
    have hnl : (5000 : Int) < (n : Int) := by omega
    have hn5 : (n : Int) ≤ 140737488351232 := by unfold reachN at hl; omega
    clear hn hl h5
    go_enter Try.func4, Try.ntmps4
    go_wp2_with (go_at_call 6; (with_reducible refine (AL.out _).mono ?_); rintro e w1 ⟨rfl, hb⟩; have HB1 := Lib.hid hb; clear hb)
    go_ret
    exact ⟨rfl, HB1.out⟩
  · cases hob : objOf l with
    | none => exact reads_none v l w hv h5 hob
    | some p => exact reads_some v l w hv h5 p hob
section
open Go.ChangeShapes Go.WideShapes Go.Deep
variable {H : Type} {enc : TypeId × Value → H} {w : World}
/-- bytes that came in -/
theorem open_bytesAt {r : Reach} {v : Value} {d : DataW H} {ps : List MemPlace} (hv : Value.okWide Try.prog w r 0 29 v) (h : DataW.Trod enc Try.prog w 0 (fun _ => true) true 29 v d ps) (hw : ∀ n ∈ d.weights Try.prog 29, n ≤ reachBytes) :
    ∃ l, BytesAt w v l ∧ l.length ≤ reachN := by
  obtain ⟨a0, n0, c0, rfl⟩ := Go.WideShapes.okWide_slice Try.underlying29 hv
  obtain ⟨fu, h⟩ := h
  have h' : DataW.trod enc Try.prog w 0 (fun _ => true) true fu 29 [.slice a0 n0 c0] = some (d, ps) := by simpa [Value.cells] using h
  rcases open_ints Try.underlying29 Try.underlying5 (by kernel_rfl) h' with ⟨e, _⟩ | ⟨a, len, cap, zs, e, _, hlc, hcm, hz, hd, hc, hwf⟩
  · cases e
    exact ⟨[], slAt_none _ _ _ _ _ ⟨Nat.zero_le _, fun _ => rfl⟩ rfl, Nat.zero_le _⟩
  · cases e
    simp only [if_true] at hz
    cases hd
    have hl : (zs.take n0).length = n0 := by simp [hz]; omega
    have hr : n0 ≤ reachN := by
      have := hw ((lits .u8 (zs.take n0)).length * Try.prog.bytesOf 5 + (lits .u8 (zs.drop n0) : List (DataW H)).length * Try.prog.bytesOf 5) (by
        simp only [DataW.weights, Try.underlying29, ← Nat.add_mul]; exact List.mem_cons_self)
      rw [show Try.prog.bytesOf 5 = 1 by kernel_rfl] at this
      have e1 : (lits .u8 (zs.take n0) : List (DataW H)).length = n0 := by simp [lits, hz]; omega
      rw [e1] at this
      exact reach_le (by omega)
    refine ⟨(zs.take n0).map (fun z => UInt8.ofNat z.toNat), ?_, by rw [List.length_map, hl]; exact hr⟩
    unfold BytesAt
    rw [List.length_map, hl]
    rcases Nat.eq_zero_or_pos n0 with rfl | hp
    · exact slAt_none _ _ _ _ _ ⟨hcm, fun h => by cases h⟩ rfl
    · have h0 := hc 0 (by omega)
      have ha := spot_none h0
      have ha' : a = ⟨a.block, a.off, none⟩ := by
        obtain ⟨b, o, s⟩ := a
        simp [Addr.add] at ha
        simp [ha]
      rw [ha']
      refine slAt_some hlc hcm fun i hi x hx => ?_
      have := hc i (by omega)
      rw [add_none a ha'] at this
      show w.cell? ⟨a.block, a.off + i * 1, none⟩ = _
      rw [Nat.mul_one, this]
      have hi2 : i < zs.length := by omega
      have hx2 : UInt8.ofNat (zs[i]).toNat = x := by simpa [hi, hi2] using hx
      have hwz := hwf (zs[i]) (List.getElem_mem hi2)
      have hb : 0 ≤ zs[i] ∧ zs[i] < 256 := by
        simp [Lit.wf, IntKind.min, IntKind.max, IntKind.signed, IntKind.bits] at hwz
        omega
      rw [← hx2, byte_val (by omega)]
      have hg : zs.getD i 0 = zs[i] := by simp [List.getD, hi2]
      rw [hg, Int.toNat_of_nonneg hb.1]
end
end Go.Proofs.Ytodblepbedhnnaa
