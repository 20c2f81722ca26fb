/- A row of bytes of the call's own, and dec.digitsBehind: the digits behind the point. -/
import Derived.Test.YtfbpdfaofmocaaaDoorStrKit
import Derived.Test.YtfbpdfaofmocaaaDoorRefShort
import Derived.Laws.MakeOwn
import Derived.Laws.OwnMore
import Derived.Laws.IdiomStrings
import Derived.Lib.ConvBytes
import Derived.Lib.ItoaMem
namespace Go.Proofs.YtfbpdfaofmocaaaDoor
open Go.RowKit

/-- block B holds these bytes, and may be written -/
def Row (w : World) (B : Nat) (l : List UInt8) : Prop :=
  ∀ (j : Nat) (x : UInt8), l[j]? = some x → w.cell? ⟨B, j, none⟩ = some (.int .u8 (x.toNat : Int)) ∧ w.frozen? ⟨B, j, none⟩ = false
theorem row_made (w : World) (n : Nat) (T : TypeId) : Row (w.alloc (.cells (madeCells #[.int .u8 0] n) T)) w.heap.size (List.replicate n 0) := fun j x h => by
  refine ⟨?_, World.frozen?_alloc_new _ _ _ _⟩
  have hj : j < n := by have := (List.getElem?_eq_some_iff.1 h).1; simpa using this
  rw [World.cell?_alloc_new]
  have e : (madeCells #[Value.int .u8 0] n)[j]? = (List.replicate n (Value.int .u8 0))[j]? := by rw [← toList_madeCells_one, Array.getElem?_toList]
  rw [e, List.getElem?_replicate, if_pos hj]
  rw [List.getElem?_replicate, if_pos hj] at h
  cases h
  rfl
theorem row_cell {w : World} {B : Nat} {l : List UInt8} (h : Row w B l) {j : Nat} {x : UInt8} (hx : l[j]? = some x) : w.cell? ⟨B, j, none⟩ = some (.int .u8 (x.toNat : Int)) := (h j x hx).1
theorem row_frozen {w : World} {B : Nat} {l : List UInt8} (h : Row w B l) {j : Nat} {x : UInt8} (hx : l[j]? = some x) : w.frozen? ⟨B, j, none⟩ = false := (h j x hx).2
theorem row_set {w : World} {B : Nat} {l : List UInt8} (h : Row w B l) (j : Nat) (x : UInt8) (hj : j < l.length) : Row (w.setCell ⟨B, j, none⟩ (.int .u8 (x.toNat : Int))) B (l.set j x) := fun i y hy => by
  obtain ⟨x0, h0⟩ : ∃ x0, l[j]? = some x0 := ⟨l[j], List.getElem?_eq_getElem hj⟩
  refine ⟨?_, by
    rw [World.frozen?_setCell]
    exact (h i (l[i]'(by have := (List.getElem?_eq_some_iff.1 hy).1; simpa using this)) (List.getElem?_eq_getElem _)).2⟩
  by_cases e : i = j
  · subst e
    rw [World.cell?_setCell_same _ _ _ (h i x0 h0).1]
    rw [List.getElem?_set_self hj] at hy
    cases hy
    rfl
  · rw [World.cell?_setCell_other _ _ _ _ (by simp)]
    rw [List.getElem?_set_ne (Ne.symm e)] at hy
    exact (h i y hy).1
theorem row_far {w w' : World} {B : Nat} {l : List UInt8} (h : Row w B l) (hb : w'.heap[B]? = w.heap[B]?) : Row w' B l := fun j x hx =>
  ⟨(World.cell?_of_block (w := w) hb).trans (h j x hx).1, (World.frozen?_of_block (w := w) hb).trans (h j x hx).2⟩
theorem row_string {w : World} {B : Nat} {l : List UInt8} (h : Row w B l) (cap : Nat) :
    (convert 36 9 (.slice (some ⟨B, 0, none⟩) l.length cap)).run Tryd.prog w = .ok (.string (str l)) w :=
  run_convert_bytes_back w _ _ 5 ⟨B, 0, none⟩ cap l Tryd.underlying36 Tryd.underlying5 Tryd.underlying9 (fun j hj => by
    rw [Lib.add_plain, Nat.zero_add]; exact (h j l[j] (List.getElem?_eq_getElem hj)).1)
theorem dg_toNat {n : Nat} (h : n < 10) : (dg n).toNat = 48 + n := by unfold dg; rw [UInt8.toNat_ofNat_of_lt' (by show 48 + n < 256; omega)]
theorem set_next (a : List UInt8) (n : Nat) (x y : UInt8) : (a ++ List.replicate (n + 1) y).set a.length x = (a ++ [x]) ++ List.replicate n y := by
  rw [List.set_append_right _ _ (Nat.le_refl _), Nat.sub_self, List.replicate_succ]; simp
theorem u8_info : ∃ i, Tryd.prog.info? 5 = some i ∧ i.zero = some (.int .u8 0) ∧ i.size = 1 ∧ i.bytes = 1 := by
  have h : (Tryd.prog.info? 5).map (fun i => (i.zero, i.size, i.bytes)) = some (some (.int .u8 0), 1, 1) := by kernel_rfl
  obtain ⟨i, h1, h2⟩ := Option.map_eq_some_iff.1 h
  simp only [Prod.mk.injEq] at h2
  exact ⟨i, h1, h2.1, h2.2.1, h2.2.2⟩
theorem make_row (N : Nat) (hN : (N : Int) ≤ 100) (w : World) : (Instr.makeSlice 36 (.int .i64 (N : Int)) (.int .i64 (N : Int))).run Tryd.prog w = .ok (.slice (some ⟨w.heap.size, 0, none⟩) N N) (w.alloc (.cells (madeCells #[.int .u8 0] N) 5)) := by
  obtain ⟨i, h1, h2, h3, h4⟩ := u8_info
  have h := run_makeSlice (P := Tryd.prog) w 36 5 i (.int .u8 0) Tryd.underlying36 h1 h2 .i64 .i64 (N : Int) (N : Int) (by omega) (by omega) (by rw [h3]; omega) (by rw [h4]; omega) (by omega)
  rw [h3] at h
  simpa [Value.cells] using h

set_option maxHeartbeats 4000000 in
set_option maxRecDepth 100000 in
theorem digits_behind (N : Nat) (hN : (N : Int) ≤ 32) (β : Nat) (hβ : (β : Int) ≤ 4294967295) (w : World) :
    Calls Tryd.prog 21 #[.int .u32 (β : Int), .int .i64 (N : Int)] w fun e w' => StrPost (frac N β) w e w' := by
  have hmk := make_row N (by omega)
  go_enter Tryd.func21, Tryd.ntmps21
  go_wp2_with fail
  go_loopw [14, 6] (fun i left wr => ∃ κ : Nat, κ ≤ N ∧ i = .int .i64 κ ∧ left = .int .u64 (rest κ β : Nat) ∧ Hid (Row wr w.heap.size (frac κ β ++ List.replicate (N - κ) 0)) ∧ Hid (Below w.heap.size w wr)) (fun i _ _ => N - (intOf i).toNat)
  case atStart => exact ⟨0, by omega, rfl, rfl, Lib.hid (row_made _ _ _), Lib.hid ((Below.refl _ w).alloc (Nat.le_refl _) _)⟩
  case round =>
    rename_i wr
    obtain ⟨κ, hκ, rfl, rfl, hr, hb⟩ := hrel
    rcases Nat.lt_or_ge κ N with hlt | hge
    · obtain ⟨M, hM⟩ : ∃ M, N = κ + (M + 1) := ⟨N - κ - 1, by omega⟩
      have e0 : N - κ = M + 1 := by omega
      rw [e0] at hr
      have hlen := frac_length κ β
      have hx : (frac κ β ++ List.replicate (M + 1) 0)[κ]? = some 0 := by
        rw [List.getElem?_append_right (by omega), hlen, Nat.sub_self]; rfl
      have c0 := row_cell hr.out hx
      have f0 := row_frozen hr.out hx
      have hset := row_set hr.out κ (dg (rest κ β * 10 / 4294967296)) (by rw [List.length_append, hlen, List.length_replicate]; omega)
      have e1 : (frac κ β ++ List.replicate (M + 1) 0).set κ (dg (rest κ β * 10 / 4294967296)) = frac (κ + 1) β ++ List.replicate M 0 := by
        have := set_next (frac κ β) M (dg (rest κ β * 10 / 4294967296)) 0
        rw [hlen] at this
        rw [this, frac_snoc]
      rw [e1] at hset
      have hρ := rest_lt κ (b := β) (by omega)
      have hd := dg_toNat (n := rest κ β * 10 / 4294967296) (by omega)
      rw [hd] at hset
      have hrs := rest_succ κ β
      obtain ⟨ρ, hρe⟩ : ∃ ρ, ρ = rest κ β := ⟨_, rfl⟩
      rw [← hρe] at hset hρ hrs
      obtain ⟨d, hde⟩ : ∃ d, d = ρ * 10 / 4294967296 := ⟨_, rfl⟩
      rw [← hde] at hset
      have x0 : IntKind.u64.wrap ((ρ : Int) * 10) = ((ρ * 10 : Nat) : Int) := by rw [IntKind.wrap_u64]; omega
      have x1 : ((ρ * 10 : Nat) : Int) / 4294967296 = (d : Int) := by omega
      have x2 : bits .and .u64 ((ρ * 10 : Nat) : Int) 4294967295 = ((rest (κ + 1) β : Nat) : Int) := by
        rw [and_low32 _ (by omega) (by omega), hrs]; omega
      have x3 : (d : Int) ≤ 9 := by omega
      generalize ρ * 10 = T at x0 x1 x2
      rw [← hρe]
      have HS := Lib.hid hset
      have RS := Lib.hid hr
      have E := Lib.hid hρe
      clear hset hr hρe hrs hρ hde hd e1 hlen hx e0
      go_wp2_with fail
      refine ⟨⟨κ + 1, by omega, rfl, rfl, ?_, Lib.hid (hb.out.setCell (Nat.le_refl _) _)⟩, by simp [intOf]; omega⟩
      have e2 : N - (κ + 1) = M := by omega
      rw [e2]
      exact HS
    · obtain rfl : κ = N := by omega
      rw [Nat.sub_self, List.replicate_zero, List.append_nil] at hr
      have hcv := row_string hr.out κ
      rw [frac_length] at hcv
      go_wp2_with fail
      go_ret
      exact ⟨rfl, hb.out⟩
end Go.Proofs.YtfbpdfaofmocaaaDoor
