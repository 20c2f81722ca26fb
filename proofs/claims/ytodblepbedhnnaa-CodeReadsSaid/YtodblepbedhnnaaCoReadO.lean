/- code.read: an object is read. -/
import Derived.Test.YtodblepbedhnnaaCoRList
import Derived.Test.YtodblepbedhnnaaCoBytes
namespace Go.Proofs.Ytodblepbedhnnaa
open Go.RowKit Co

attribute [local go_sem] Oper.semAt_some

/-- what is left behind so many parts -/
def rs (s : St) : Nat → St
  | 0 => s
  | n + 1 => if n < 4 then (lst 1 num (rs s n)).2 else if n < 6 then (num (rs s n)).2 else (lst 6 six (rs s n)).2
theorem rs_lt4 {s : St} {n : Nat} (h : n < 4) : rs s (n + 1) = (lst 1 num (rs s n)).2 := by conv => lhs; unfold rs
                                                                                            rw [if_pos h]
theorem rs_lt6 {s : St} {n : Nat} (h4 : 4 ≤ n) (h : n < 6) : rs s (n + 1) = (num (rs s n)).2 := by conv => lhs; unfold rs
                                                                                                   rw [if_neg (by omega), if_pos h]
theorem rs_ge6 {s : St} {n : Nat} (h : 6 ≤ n) : rs s (n + 1) = (lst 6 six (rs s n)).2 := by conv => lhs; unfold rs
                                                                                            rw [if_neg (by omega), if_neg (by omega)]
/-- part j, as it lies in memory from block B on -/
def slotOk (s : St) (B j : Nat) (v : Value) (W : World) : Prop :=
  if j < 4 then NewRow B (if j < 2 then 3 else 2) (lst 1 num (rs s j)).1.length ((lst 1 num (rs s j)).1.map iv) v W
  else if j < 6 then v = .int .i64 (num (rs s j)).1
  else NewRow B 59 (lst 6 six (rs s j)).1.length (sixesV (lst 6 six (rs s j)).1) v W
def zeroV (j : Nat) : Value := if j < 4 then .slice none 0 0 else if j < 6 then .int .i64 0 else .slice none 0 0
/-- blocks from B on stay -/
structure Kp (B : Nat) (w w' : World) : Prop where
  size : w.heap.size ≤ w'.heap.size
  same : ∀ k, B ≤ k → k < w.heap.size → w'.heap[k]? = w.heap[k]?
theorem Kp.trans {B : Nat} {a b c : World} (h : Kp B a b) (k : Kp B b c) : Kp B a c := ⟨Nat.le_trans h.size k.size, fun i hB hi => (k.same i hB (Nat.lt_of_lt_of_le hi h.size)).trans (h.same i hB hi)⟩
theorem Sm.kp {R B : Nat} {w w' : World} (h : Sm R w w') (hR : R < B) : Kp B w w' := ⟨h.size, fun k hB hk => h.same k hk (by omega)⟩
theorem Kp.set {B k i : Nat} (w : World) (hk : k < B) (v : Value) : Kp B w (w.setCell ⟨k, i, none⟩ v) := ⟨by simp [World.setCell], fun j hB _ => set_other (by omega)⟩
theorem NewRow.kp {B : Nat} {T : TypeId} {n : Nat} {cs : List Value} {v : Value} {w w' : World} (h : NewRow B T n cs v w) (hs : Kp B w w') : NewRow B T n cs v w' := by
  rcases h with h | ⟨L, h1, h2, h3, h4⟩
  · exact .inl h
  · exact .inr ⟨L, h1, h2, h3, (hs.same _ h1 (lt_of_heap h4)).trans h4⟩
theorem NewRow.low {B B' : Nat} {T : TypeId} {n : Nat} {cs : List Value} {v : Value} {w : World} (h : NewRow B T n cs v w) (hB : B' ≤ B) : NewRow B' T n cs v w := by
  rcases h with h | ⟨L, h1, h2⟩
  · exact .inl h
  · exact .inr ⟨L, by omega, h2⟩
theorem NewRow.form {B : Nat} {T : TypeId} {n : Nat} {cs : List Value} {v : Value} {w : World} (h : NewRow B T n cs v w) : ∃ o m c, v = .slice o m c := by
  rcases h with ⟨h, _⟩ | ⟨L, _, h, _⟩
  · exact ⟨_, _, _, h⟩
  · exact ⟨_, _, _, h⟩
theorem slot_kp {s : St} {B j : Nat} {v : Value} {w w' : World} (h : slotOk s B j v w) (hk : Kp B w w') : slotOk s B j v w' := by
  unfold slotOk at h ⊢
  split
  · rename_i h1; rw [if_pos h1] at h; exact h.kp hk
  · rename_i h1
    rw [if_neg h1] at h
    split
    · rename_i h2; rw [if_pos h2] at h; exact h
    · rename_i h2; rw [if_neg h2] at h; exact h.kp hk
def tenV (vs : Nat → Value) : Array Value := #[vs 0, vs 1, vs 2, vs 3, vs 4, vs 5, vs 6, vs 7, vs 8, vs 9]
def setV (vs : Nat → Value) (k : Nat) (v : Value) : Nat → Value := fun j => if j = k then v else vs j
theorem tenV_set (vs : Nat → Value) (k : Nat) (hk : k < 10) (v : Value) : (tenV vs).setIfInBounds k v = tenV (setV vs k v) := by
  match k, hk with
  | 0, _ => rfl
  | 1, _ => rfl
  | 2, _ => rfl
  | 3, _ => rfl
  | 4, _ => rfl
  | 5, _ => rfl
  | 6, _ => rfl
  | 7, _ => rfl
  | 8, _ => rfl
  | 9, _ => rfl
/-- so many parts are read -/
structure RJ (w0 : World) (R : Nat) (s : St) (w : World) (k : Nat) (vs : Nat → Value) (wr : World) : Prop where
  rd : Rd w0 R (rs s k) wr
  res : wr.heap[w.heap.size]? = some (.cells (tenV zeroV) 26 (0, 0))
  box : wr.heap[w.heap.size + 1]? = some (.cells (tenV vs) 26 (0, 0))
  sm : Sm R w wr
  zero : ∀ j, k ≤ j → vs j = zeroV j
  done : ∀ j, j < k → slotOk s (w.heap.size + 2) j (vs j) wr
theorem rj_start {w0 w : World} {R : Nat} {s : St} (h : Rd w0 R s w) : RJ w0 R s w 0 zeroV ((w.alloc (.cells (tenV zeroV) 26)).alloc (.cells (tenV zeroV) 26)) := by
  have z1 : (w.alloc (.cells (tenV zeroV) 26)).heap.size = w.heap.size + 1 := World.size_alloc _ _
  refine ⟨(h.alloc _).alloc _, ?_, ?_, (Sm.alloc R w _).trans (Sm.alloc R _ _), fun _ _ => rfl, fun j hj => by omega⟩
  · rw [Below.heap_alloc _ _ _ (by rw [z1]; omega)]; exact heap_alloc_new w _
  · have h1 := heap_alloc_new (w.alloc (.cells (tenV zeroV) 26)) (.cells (tenV zeroV) 26)
    rw [z1] at h1
    exact h1
theorem RJ.call {w0 w wr w1 : World} {R k : Nat} {s : St} {vs : Nat → Value} (h : RJ w0 R s w k vs wr) (hR : R < w.heap.size) (hs : Sm R wr w1) : w1.heap[w.heap.size + 1]? = some (.cells (tenV vs) 26 (0, 0)) :=
  (hs.same _ (lt_of_heap h.box) (by omega)).trans h.box
theorem RJ.step {w0 w wr w1 : World} {R k : Nat} {s : St} {vs : Nat → Value} {v : Value} (h : RJ w0 R s w k vs wr) (hR : R < w.heap.size) (hl : w0.heap.size ≤ w.heap.size) (hk : k < 10) (h1 : Rd w0 R (rs s (k + 1)) w1) (hs : Sm R wr w1) (hv : slotOk s (w.heap.size + 2) k v w1) :
    RJ w0 R s w (k + 1) (setV vs k v) (w1.setCell ⟨w.heap.size + 1, k, none⟩ v) := by
  have hr := (hs.same _ (lt_of_heap h.res) (by omega)).trans h.res
  have kp : Kp (w.heap.size + 2) w1 (w1.setCell ⟨w.heap.size + 1, k, none⟩ v) := Kp.set w1 (by omega) v
  refine ⟨h1.other (by omega) (by omega) v, (set_other (by omega)).trans hr, ?_, (h.sm.trans hs).own (by omega) v, fun j hj => ?_, fun j hj => ?_⟩
  · rw [← tenV_set vs k hk v]; exact set_heap (h.call hR hs) k v
  · unfold setV; rw [if_neg (by omega)]; exact h.zero j (by omega)
  · unfold setV
    by_cases e : j = k
    · rw [if_pos e, e]; exact slot_kp hv kp
    · rw [if_neg e]; exact slot_kp (h.done j (by omega)) ((hs.kp (by omega)).trans kp)
theorem ten_froz {W : World} {B : Nat} {vs : Nat → Value} {T : TypeId} (h : W.heap[B]? = some (.cells (tenV vs) T (0, 0))) (j : Nat) (hj : j < 10) : W.frozen? ⟨B, j, none⟩ = false ∧ W.cell? ⟨B, j, none⟩ = some (vs j) := by
  refine ⟨by simp [World.frozen?, h], ?_⟩
  have : (tenV vs)[j]? = some (vs j) := by
    match j, hj with
    | 0, _ => rfl
    | 1, _ => rfl
    | 2, _ => rfl
    | 3, _ => rfl
    | 4, _ => rfl
    | 5, _ => rfl
    | 6, _ => rfl
    | 7, _ => rfl
    | 8, _ => rfl
    | 9, _ => rfl
  simp [World.cell?, h, this]
theorem RJ.size2 {w0 w wr : World} {R k : Nat} {s : St} {vs : Nat → Value} (h : RJ w0 R s w k vs wr) : w.heap.size + 2 ≤ wr.heap.size := by have := lt_of_heap h.box; omega
theorem ten_box {W : World} {B : Nat} {T : TypeId} {v0 v1 v2 v3 v4 v5 v6 v7 v8 v9 u0 u1 u2 u3 u4 u5 u6 u7 u8 u9 : Value} (h : W.heap[B]? = some (.cells #[u0, u1, u2, u3, u4, u5, u6, u7, u8, u9] T (0, 0))) : ((((((((((W.setCell ⟨B, 0, none⟩ v0).setCell ⟨B, 1, none⟩ v1).setCell ⟨B, 2, none⟩ v2).setCell ⟨B, 3, none⟩ v3).setCell ⟨B, 4, none⟩ v4).setCell ⟨B, 5, none⟩ v5).setCell ⟨B, 6, none⟩ v6).setCell ⟨B, 7, none⟩ v7).setCell ⟨B, 8, none⟩ v8).setCell ⟨B, 9, none⟩ v9).heap[B]? = some (.cells #[v0, v1, v2, v3, v4, v5, v6, v7, v8, v9] T (0, 0)) := by
  have e : ((((((((((#[u0, u1, u2, u3, u4, u5, u6, u7, u8, u9] : Array Value).setIfInBounds 0 v0).setIfInBounds 1 v1).setIfInBounds 2 v2).setIfInBounds 3 v3).setIfInBounds 4 v4).setIfInBounds 5 v5).setIfInBounds 6 v6).setIfInBounds 7 v7).setIfInBounds 8 v8).setIfInBounds 9 v9 = #[v0, v1, v2, v3, v4, v5, v6, v7, v8, v9] := by simp
  rw [← e]
  exact set_heap (set_heap (set_heap (set_heap (set_heap (set_heap (set_heap (set_heap (set_heap (set_heap h 0 v0) 1 v1) 2 v2) 3 v3) 4 v4) 5 v5) 6 v6) 7 v7) 8 v8) 9 v9
theorem ten_end {W : World} {B : Nat} {v0 v1 v2 v3 v4 v5 v6 v7 v8 v9 : Value} (h : W.heap[B]? = some (.cells #[v0, v1, v2, v3, v4, v5, v6, v7, v8, v9] 26 (0, 0))) : (loadVar 26 ⟨B, 0, none⟩).run Try.prog W = .ok (.agg #[v0, v1, v2, v3, v4, v5, v6, v7, v8, v9]) W :=
  run_loadVar_row _ _ _ _ _ _ _ h Try.underlying26 rfl (by kernel_rfl)
theorem slot_list {s : St} {B j : Nat} {v : Value} {w : World} (h : slotOk s B j v w) (hj : j < 4 ∨ 6 ≤ j) : ∃ o m c, v = .slice o m c := by
  unfold slotOk at h
  by_cases h1 : j < 4
  · rw [if_pos h1] at h; exact h.form
  · rw [if_neg h1, if_neg (by omega)] at h; exact h.form
theorem slot_num {s : St} {B j : Nat} {v : Value} {w : World} (h : slotOk s B j v w) (h4 : 4 ≤ j) (h6 : j < 6) : v = .int .i64 (num (rs s j)).1 := by
  unfold slotOk at h
  rw [if_neg (by omega), if_pos h6] at h
  exact h
def litLen : Value → Nat | .int _ n => n.toNat | _ => 0
set_option maxHeartbeats 16000000 in
set_option maxRecDepth 100000 in
theorem read_core (w0 : World) (R : Nat) (s : St) (w : World) (h : Rd w0 R s w) :
    Calls Try.prog 19 #[.pointer (some ⟨R, 0, none⟩)] w fun e w' => ∃ vs wr, RJ w0 R s w 10 vs wr ∧ e = .returned (.agg (tenV vs)) ∧ w' = ((((((((((wr.setCell ⟨w.heap.size, 0, none⟩ (vs 0)).setCell ⟨w.heap.size, 1, none⟩ (vs 1)).setCell ⟨w.heap.size, 2, none⟩ (vs 2)).setCell ⟨w.heap.size, 3, none⟩ (vs 3)).setCell ⟨w.heap.size, 4, none⟩ (vs 4)).setCell ⟨w.heap.size, 5, none⟩ (vs 5)).setCell ⟨w.heap.size, 6, none⟩ (vs 6)).setCell ⟨w.heap.size, 7, none⟩ (vs 7)).setCell ⟨w.heap.size, 8, none⟩ (vs 8)).setCell ⟨w.heap.size, 9, none⟩ (vs 9)) := by
  have HRL := Lib.hid h.lt
  have HWL := Lib.hid h.below.size
  have HST := Lib.hid (rj_start h)
  clear h
  go_enter Try.func19, Try.ntmps19
  go_wp2_with fail
  go_loopw [15] (fun i wr => ∃ (c : Nat) (vs : Nat → Value), i = .int .i64 (c : Int) ∧ c ≤ 2 ∧ Hid (RJ w0 R s w (0 + c) vs wr)) (fun i _ => 2 - litLen i)
  case atStart => exact ⟨0, zeroV, rfl, by omega, HST⟩
  case round =>
    obtain ⟨c, vs, rfl, hc, hJ⟩ := hrel
    rcases Nat.lt_or_ge c 2 with hlt | hge
    · have C := Lib.hid (rlist_int w0 R (rs s (0 + c)) wr hJ.out.rd)
      have hs2 := rs_lt4 (s := s) (n := 0 + c) (by omega)
      rw [← hs2] at C
      clear hs2
      rcases (show c = 0 ∨ c = 1 by omega) with rfl | rfl
      · have ix := Lib.hid (run_index_agg (cs := #[.pointer (some ⟨w.heap.size + 1, 0, none⟩), .pointer (some ⟨w.heap.size + 1, 1, none⟩)]) Try.underlying77 Try.sizeOf76 Try.isAgg76 (c := 0) (by omega) rfl wr)
        go_wp2_with (first | (refine wpList_index _ rfl _ (.tmp 14) (.tmp 15) rfl _ _ _ rfl rfl ix.out ?_) | (go_at_call 41; (with_reducible refine C.out.mono ?_); rintro e w1 ⟨v, rfl, hv, h2, h3⟩; obtain ⟨k0, k1⟩ := ten_froz (hJ.out.call HRL.out h3) 0 (by omega); obtain ⟨vo, vn, vc, rfl⟩ := hv.form; have HV := Lib.hid hv; have H2 := Lib.hid h2; have H3 := Lib.hid h3; clear hv h2 h3))
        refine ⟨⟨1, _, rfl, by omega, Lib.hid (hJ.out.step HRL.out HWL.out (by omega) H2.out H3.out ?_)⟩, by simp [litLen]⟩
        exact HV.out.low hJ.out.size2
      · have ix := Lib.hid (run_index_agg (cs := #[.pointer (some ⟨w.heap.size + 1, 0, none⟩), .pointer (some ⟨w.heap.size + 1, 1, none⟩)]) Try.underlying77 Try.sizeOf76 Try.isAgg76 (c := 1) (by omega) rfl wr)
        go_wp2_with (first | (refine wpList_index _ rfl _ (.tmp 14) (.tmp 15) rfl _ _ _ rfl rfl ix.out ?_) | (go_at_call 41; (with_reducible refine C.out.mono ?_); rintro e w1 ⟨v, rfl, hv, h2, h3⟩; obtain ⟨k0, k1⟩ := ten_froz (hJ.out.call HRL.out h3) 1 (by omega); obtain ⟨vo, vn, vc, rfl⟩ := hv.form; have HV := Lib.hid hv; have H2 := Lib.hid h2; have H3 := Lib.hid h3; clear hv h2 h3))
        refine ⟨⟨2, _, rfl, by omega, Lib.hid (hJ.out.step HRL.out HWL.out (by omega) H2.out H3.out ?_)⟩, by simp [litLen]⟩
        exact HV.out.low hJ.out.size2
    · obtain rfl : c = 2 := by omega
      clear hc hge
      rw [show ((2 : Nat) : Int) = 2 from rfl]
      clear HST
      go_wp2_with fail
      go_loopw [26] (fun i wr => ∃ (c : Nat) (vs : Nat → Value), i = .int .i64 (c : Int) ∧ c ≤ 2 ∧ Hid (RJ w0 R s w (2 + c) vs wr)) (fun i _ => 2 - litLen i)
      case atStart => exact ⟨0, vs, rfl, by omega, hJ⟩
      case round =>
        obtain ⟨c, vs, rfl, hc, hJ⟩ := hrel
        rcases Nat.lt_or_ge c 2 with hlt | hge
        · have C := Lib.hid (rlist_int64 w0 R (rs s (2 + c)) wr hJ.out.rd)
          have hs2 := rs_lt4 (s := s) (n := 2 + c) (by omega)
          rw [← hs2] at C
          clear hs2
          rcases (show c = 0 ∨ c = 1 by omega) with rfl | rfl
          · have ix := Lib.hid (run_index_agg (cs := #[.pointer (some ⟨w.heap.size + 1, 2, none⟩), .pointer (some ⟨w.heap.size + 1, 3, none⟩)]) Try.underlying81 Try.sizeOf80 Try.isAgg80 (c := 0) (by omega) rfl wr)
            go_wp2_with (first | (refine wpList_index _ rfl _ (.tmp 25) (.tmp 26) rfl _ _ _ rfl rfl ix.out ?_) | (go_at_call 43; (with_reducible refine C.out.mono ?_); rintro e w1 ⟨v, rfl, hv, h2, h3⟩; obtain ⟨k0, k1⟩ := ten_froz (hJ.out.call HRL.out h3) 2 (by omega); obtain ⟨vo, vn, vc, rfl⟩ := hv.form; have HV := Lib.hid hv; have H2 := Lib.hid h2; have H3 := Lib.hid h3; clear hv h2 h3))
            refine ⟨⟨1, _, rfl, by omega, Lib.hid (hJ.out.step HRL.out HWL.out (by omega) H2.out H3.out ?_)⟩, by simp [litLen]⟩
            exact HV.out.low hJ.out.size2
          · have ix := Lib.hid (run_index_agg (cs := #[.pointer (some ⟨w.heap.size + 1, 2, none⟩), .pointer (some ⟨w.heap.size + 1, 3, none⟩)]) Try.underlying81 Try.sizeOf80 Try.isAgg80 (c := 1) (by omega) rfl wr)
            go_wp2_with (first | (refine wpList_index _ rfl _ (.tmp 25) (.tmp 26) rfl _ _ _ rfl rfl ix.out ?_) | (go_at_call 43; (with_reducible refine C.out.mono ?_); rintro e w1 ⟨v, rfl, hv, h2, h3⟩; obtain ⟨k0, k1⟩ := ten_froz (hJ.out.call HRL.out h3) 3 (by omega); obtain ⟨vo, vn, vc, rfl⟩ := hv.form; have HV := Lib.hid hv; have H2 := Lib.hid h2; have H3 := Lib.hid h3; clear hv h2 h3))
            refine ⟨⟨2, _, rfl, by omega, Lib.hid (hJ.out.step HRL.out HWL.out (by omega) H2.out H3.out ?_)⟩, by simp [litLen]⟩
            exact HV.out.low hJ.out.size2
        · obtain rfl : c = 2 := by omega
          clear hc hge
          rw [show ((2 : Nat) : Int) = 2 from rfl]
          go_wp2_with fail
          go_loopw [37] (fun i wr => ∃ (c : Nat) (vs : Nat → Value), i = .int .i64 (c : Int) ∧ c ≤ 2 ∧ Hid (RJ w0 R s w (4 + c) vs wr)) (fun i _ => 2 - litLen i)
          case atStart => exact ⟨0, vs, rfl, by omega, hJ⟩
          case round =>
            obtain ⟨c, vs, rfl, hc, hJ⟩ := hrel
            rcases Nat.lt_or_ge c 2 with hlt | hge
            · have C := Lib.hid (rnum_int w0 R (rs s (4 + c)) wr hJ.out.rd)
              have hs2 := rs_lt6 (s := s) (n := 4 + c) (by omega) (by omega)
              rw [← hs2] at C
              clear hs2
              rcases (show c = 0 ∨ c = 1 by omega) with rfl | rfl
              · have ix := Lib.hid (run_index_agg (cs := #[.pointer (some ⟨w.heap.size + 1, 4, none⟩), .pointer (some ⟨w.heap.size + 1, 5, none⟩)]) Try.underlying85 Try.sizeOf84 Try.isAgg84 (c := 0) (by omega) rfl wr)
                go_wp2_with (first | (refine wpList_index _ rfl _ (.tmp 36) (.tmp 37) rfl _ _ _ rfl rfl ix.out ?_) | (go_at_call 42; (with_reducible refine C.out.mono ?_); rintro e w1 ⟨rfl, h2, h3⟩; obtain ⟨k0, k1⟩ := ten_froz (hJ.out.call HRL.out h3) 4 (by omega); have H2 := Lib.hid h2; have H3 := Lib.hid h3; clear h2 h3))
                refine ⟨⟨1, _, rfl, by omega, Lib.hid (hJ.out.step HRL.out HWL.out (by omega) H2.out H3.out ?_)⟩, by simp [litLen]⟩
                exact rfl
              · have ix := Lib.hid (run_index_agg (cs := #[.pointer (some ⟨w.heap.size + 1, 4, none⟩), .pointer (some ⟨w.heap.size + 1, 5, none⟩)]) Try.underlying85 Try.sizeOf84 Try.isAgg84 (c := 1) (by omega) rfl wr)
                go_wp2_with (first | (refine wpList_index _ rfl _ (.tmp 36) (.tmp 37) rfl _ _ _ rfl rfl ix.out ?_) | (go_at_call 42; (with_reducible refine C.out.mono ?_); rintro e w1 ⟨rfl, h2, h3⟩; obtain ⟨k0, k1⟩ := ten_froz (hJ.out.call HRL.out h3) 5 (by omega); have H2 := Lib.hid h2; have H3 := Lib.hid h3; clear h2 h3))
                refine ⟨⟨2, _, rfl, by omega, Lib.hid (hJ.out.step HRL.out HWL.out (by omega) H2.out H3.out ?_)⟩, by simp [litLen]⟩
                exact rfl
            · obtain rfl : c = 2 := by omega
              clear hc hge
              rw [show ((2 : Nat) : Int) = 2 from rfl]
              go_wp2_with fail
              go_loopw [50] (fun i wr => ∃ (c : Nat) (vs : Nat → Value), i = .int .i64 (c : Int) ∧ c ≤ 4 ∧ Hid (RJ w0 R s w (6 + c) vs wr)) (fun i _ => 4 - litLen i)
              case atStart => exact ⟨0, vs, rfl, by omega, hJ⟩
              case round =>
                obtain ⟨c, vs, rfl, hc, hJ⟩ := hrel
                rcases Nat.lt_or_ge c 4 with hlt | hge
                · have C := Lib.hid (rlist_ins w0 R (rs s (6 + c)) wr hJ.out.rd)
                  have hs2 := rs_ge6 (s := s) (n := 6 + c) (by omega)
                  rw [← hs2] at C
                  clear hs2
                  rcases (show c = 0 ∨ c = 1 ∨ c = 2 ∨ c = 3 by omega) with rfl | rfl | rfl | rfl
                  · have ix := Lib.hid (run_index_agg (cs := #[.pointer (some ⟨w.heap.size + 1, 6, none⟩), .pointer (some ⟨w.heap.size + 1, 7, none⟩), .pointer (some ⟨w.heap.size + 1, 8, none⟩), .pointer (some ⟨w.heap.size + 1, 9, none⟩)]) Try.underlying87 Try.sizeOf86 Try.isAgg86 (c := 0) (by omega) rfl wr)
                    go_wp2_with (first | (refine wpList_index _ rfl _ (.tmp 49) (.tmp 50) rfl _ _ _ rfl rfl ix.out ?_) | (go_at_call 45; (with_reducible refine C.out.mono ?_); rintro e w1 ⟨v, rfl, hv, h2, h3⟩; obtain ⟨k0, k1⟩ := ten_froz (hJ.out.call HRL.out h3) 6 (by omega); obtain ⟨vo, vn, vc, rfl⟩ := hv.form; have HV := Lib.hid hv; have H2 := Lib.hid h2; have H3 := Lib.hid h3; clear hv h2 h3))
                    refine ⟨⟨1, _, rfl, by omega, Lib.hid (hJ.out.step HRL.out HWL.out (by omega) H2.out H3.out ?_)⟩, by simp [litLen]⟩
                    exact HV.out.low hJ.out.size2
                  · have ix := Lib.hid (run_index_agg (cs := #[.pointer (some ⟨w.heap.size + 1, 6, none⟩), .pointer (some ⟨w.heap.size + 1, 7, none⟩), .pointer (some ⟨w.heap.size + 1, 8, none⟩), .pointer (some ⟨w.heap.size + 1, 9, none⟩)]) Try.underlying87 Try.sizeOf86 Try.isAgg86 (c := 1) (by omega) rfl wr)
                    go_wp2_with (first | (refine wpList_index _ rfl _ (.tmp 49) (.tmp 50) rfl _ _ _ rfl rfl ix.out ?_) | (go_at_call 45; (with_reducible refine C.out.mono ?_); rintro e w1 ⟨v, rfl, hv, h2, h3⟩; obtain ⟨k0, k1⟩ := ten_froz (hJ.out.call HRL.out h3) 7 (by omega); obtain ⟨vo, vn, vc, rfl⟩ := hv.form; have HV := Lib.hid hv; have H2 := Lib.hid h2; have H3 := Lib.hid h3; clear hv h2 h3))
                    refine ⟨⟨2, _, rfl, by omega, Lib.hid (hJ.out.step HRL.out HWL.out (by omega) H2.out H3.out ?_)⟩, by simp [litLen]⟩
                    exact HV.out.low hJ.out.size2
                  · have ix := Lib.hid (run_index_agg (cs := #[.pointer (some ⟨w.heap.size + 1, 6, none⟩), .pointer (some ⟨w.heap.size + 1, 7, none⟩), .pointer (some ⟨w.heap.size + 1, 8, none⟩), .pointer (some ⟨w.heap.size + 1, 9, none⟩)]) Try.underlying87 Try.sizeOf86 Try.isAgg86 (c := 2) (by omega) rfl wr)
                    go_wp2_with (first | (refine wpList_index _ rfl _ (.tmp 49) (.tmp 50) rfl _ _ _ rfl rfl ix.out ?_) | (go_at_call 45; (with_reducible refine C.out.mono ?_); rintro e w1 ⟨v, rfl, hv, h2, h3⟩; obtain ⟨k0, k1⟩ := ten_froz (hJ.out.call HRL.out h3) 8 (by omega); obtain ⟨vo, vn, vc, rfl⟩ := hv.form; have HV := Lib.hid hv; have H2 := Lib.hid h2; have H3 := Lib.hid h3; clear hv h2 h3))
                    refine ⟨⟨3, _, rfl, by omega, Lib.hid (hJ.out.step HRL.out HWL.out (by omega) H2.out H3.out ?_)⟩, by simp [litLen]⟩
                    exact HV.out.low hJ.out.size2
                  · have ix := Lib.hid (run_index_agg (cs := #[.pointer (some ⟨w.heap.size + 1, 6, none⟩), .pointer (some ⟨w.heap.size + 1, 7, none⟩), .pointer (some ⟨w.heap.size + 1, 8, none⟩), .pointer (some ⟨w.heap.size + 1, 9, none⟩)]) Try.underlying87 Try.sizeOf86 Try.isAgg86 (c := 3) (by omega) rfl wr)
                    go_wp2_with (first | (refine wpList_index _ rfl _ (.tmp 49) (.tmp 50) rfl _ _ _ rfl rfl ix.out ?_) | (go_at_call 45; (with_reducible refine C.out.mono ?_); rintro e w1 ⟨v, rfl, hv, h2, h3⟩; obtain ⟨k0, k1⟩ := ten_froz (hJ.out.call HRL.out h3) 9 (by omega); obtain ⟨vo, vn, vc, rfl⟩ := hv.form; have HV := Lib.hid hv; have H2 := Lib.hid h2; have H3 := Lib.hid h3; clear hv h2 h3))
                    refine ⟨⟨4, _, rfl, by omega, Lib.hid (hJ.out.step HRL.out HWL.out (by omega) H2.out H3.out ?_)⟩, by simp [litLen]⟩
                    exact HV.out.low hJ.out.size2
                · obtain rfl : c = 4 := by omega
                  clear hc hge
                  rw [show ((4 : Nat) : Int) = 4 from rfl]
                  have hD := hJ.out.done
                  obtain ⟨o0, m0, q0, e0⟩ := slot_list (hD 0 (by omega)) (by omega)
                  obtain ⟨o1, m1, q1, e1⟩ := slot_list (hD 1 (by omega)) (by omega)
                  obtain ⟨o2, m2, q2, e2⟩ := slot_list (hD 2 (by omega)) (by omega)
                  obtain ⟨o3, m3, q3, e3⟩ := slot_list (hD 3 (by omega)) (by omega)
                  obtain ⟨o6, m6, q6, e6⟩ := slot_list (hD 6 (by omega)) (by omega)
                  obtain ⟨o7, m7, q7, e7⟩ := slot_list (hD 7 (by omega)) (by omega)
                  obtain ⟨o8, m8, q8, e8⟩ := slot_list (hD 8 (by omega)) (by omega)
                  obtain ⟨o9, m9, q9, e9⟩ := slot_list (hD 9 (by omega)) (by omega)
                  obtain ⟨x4, e4⟩ : ∃ x, vs 4 = .int .i64 x := ⟨_, slot_num (hD 4 (by omega)) (by omega) (by omega)⟩
                  obtain ⟨x5, e5⟩ : ∃ x, vs 5 = .int .i64 x := ⟨_, slot_num (hD 5 (by omega)) (by omega) (by omega)⟩
                  obtain ⟨g0, k0⟩ := ten_froz hJ.out.box 0 (by omega)
                  rw [e0] at k0
                  obtain ⟨p0, r0⟩ := ten_froz hJ.out.res 0 (by omega)
                  obtain ⟨g1, k1⟩ := ten_froz hJ.out.box 1 (by omega)
                  rw [e1] at k1
                  obtain ⟨p1, r1⟩ := ten_froz hJ.out.res 1 (by omega)
                  obtain ⟨g2, k2⟩ := ten_froz hJ.out.box 2 (by omega)
                  rw [e2] at k2
                  obtain ⟨p2, r2⟩ := ten_froz hJ.out.res 2 (by omega)
                  obtain ⟨g3, k3⟩ := ten_froz hJ.out.box 3 (by omega)
                  rw [e3] at k3
                  obtain ⟨p3, r3⟩ := ten_froz hJ.out.res 3 (by omega)
                  obtain ⟨g4, k4⟩ := ten_froz hJ.out.box 4 (by omega)
                  rw [e4] at k4
                  obtain ⟨p4, r4⟩ := ten_froz hJ.out.res 4 (by omega)
                  obtain ⟨g5, k5⟩ := ten_froz hJ.out.box 5 (by omega)
                  rw [e5] at k5
                  obtain ⟨p5, r5⟩ := ten_froz hJ.out.res 5 (by omega)
                  obtain ⟨g6, k6⟩ := ten_froz hJ.out.box 6 (by omega)
                  rw [e6] at k6
                  obtain ⟨p6, r6⟩ := ten_froz hJ.out.res 6 (by omega)
                  obtain ⟨g7, k7⟩ := ten_froz hJ.out.box 7 (by omega)
                  rw [e7] at k7
                  obtain ⟨p7, r7⟩ := ten_froz hJ.out.res 7 (by omega)
                  obtain ⟨g8, k8⟩ := ten_froz hJ.out.box 8 (by omega)
                  rw [e8] at k8
                  obtain ⟨p8, r8⟩ := ten_froz hJ.out.res 8 (by omega)
                  obtain ⟨g9, k9⟩ := ten_froz hJ.out.box 9 (by omega)
                  rw [e9] at k9
                  obtain ⟨p9, r9⟩ := ten_froz hJ.out.res 9 (by omega)
                  have HE := Lib.hid (And.intro e0 (And.intro e1 (And.intro e2 (And.intro e3 (And.intro e4 (And.intro e5 (And.intro e6 (And.intro e7 (And.intro e8 (e9))))))))))
                  clear hD e0 g0 e1 g1 e2 g2 e3 g3 e4 g4 e5 g5 e6 g6 e7 g7 e8 g8 e9 g9
                  go_wp2_with fail
                  obtain ⟨e0, e1, e2, e3, e4, e5, e6, e7, e8, e9⟩ := HE.out
                  refine bodyPost_ret (results_cell rfl _ ⟨w.heap.size, 0, none⟩ rfl (ten_end (ten_box hJ.out.res))) rfl ⟨vs, wr, hJ.out, ?_, ?_⟩
                  · unfold tenV; rw [e0, e1, e2, e3, e4, e5, e6, e7, e8, e9]
                  · rw [e0, e1, e2, e3, e4, e5, e6, e7, e8, e9]
end Go.Proofs.Ytodblepbedhnnaa
