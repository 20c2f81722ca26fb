/- Joined: RgBad, RgGood, RgRun. -/
import Derived.Test.YtlbhlncipajapaaGreatDoorPe26
import Derived.Test.YtlbhlncipajapaaGreatDoorPe24
namespace Go.Proofs.YtlbhlncipajapaaGreatDoor
open Go.RowKit Lx
set_option linter.unusedVariables false

set_option maxHeartbeats 8000000 in
set_option maxRecDepth 100000 in
theorem parse_lexbad (s : ByteArray) (q : Bool) (c f : Int) (hc : c ≠ 0) (W : World) (LX : Hid (∀ W, Calls Tryz.prog 13 #[.string s] W fun r Y => NoRow c f W r Y)) :
    Calls Tryz.prog 9 #[.string s, .bool q] W fun r Y => r = .returned (.tuple #[.agg #[.slice none 0 0, .slice none 0 0], .int .i64 0, .agg #[.int .i64 c, .int .i64 f]]) ∧ Below W.heap.size W Y := by
  obtain ⟨W2, hW2⟩ : ∃ W2, W2 = (W.alloc (.cells #[.slice none 0 0, .slice none 0 0] 26)).alloc (.cells #[.int .i64 0, .int .i64 0] 29) := ⟨_, rfl⟩
  have hb2 : Below W.heap.size W W2 := by rw [hW2]; exact ((Below.refl _ _).alloc (Nat.le_refl _) _).alloc (by simp) _
  have hs2 : W2.heap.size = W.heap.size + 2 := by rw [hW2]; simp
  have hP : W2.heap[W.heap.size]? = some (.cells #[.slice none 0 0, .slice none 0 0] 26 (0, 0)) := by
    rw [hW2, heap_alloc_old _ _ (by simp)]; exact heap_alloc_new W _
  have hF : W2.heap[W.heap.size + 1]? = some (.cells #[.int .i64 0, .int .i64 0] 29 (0, 0)) := by
    have := heap_alloc_new (W.alloc (.cells #[.slice none 0 0, .slice none 0 0] 26)) (.cells #[.int .i64 0, .int .i64 0] 29)
    rw [World.size_alloc] at this
    rw [hW2]; exact this
  have HB2 := Lib.hid hb2
  have HPF := Lib.hid (show _ ∧ _ from ⟨hP, hF⟩)
  have HS2 := Lib.hid hs2
  have q3 : (c != 0) = true := bne_iff_ne.2 hc
  have q4 : (c == 0) = false := beq_false_of_ne hc
  clear hb2 hs2 hP hF hc
  have AT : Hid (∀ w3, Below W2.heap.size W2 w3 → W.heap.size + 1 < w3.heap.size ∧ w3.heap[W.heap.size]? = some (.cells #[.slice none 0 0, .slice none 0 0] 26 (0, 0)) ∧ w3.heap[W.heap.size + 1]? = some (.cells #[.int .i64 0, .int .i64 0] 29 (0, 0))) := by
    refine Lib.hid fun w3 hb3 => ?_
    have h2 := HS2.out
    have h3 := hb3.size
    exact ⟨by omega, (hb3.block W.heap.size (by omega)).trans HPF.out.1, (hb3.block (W.heap.size + 1) (by omega)).trans HPF.out.2⟩
  have CP : Hid (∀ (w3 : World) o (b : Nat) (x y : Value) (t : Nat), w3.heap[b]? = some (.cells #[x, y] t (0, 0)) → b < w3.heap.size → (w3.alloc o).cell? ⟨b, 0, none⟩ = some x ∧ (w3.alloc o).cell? ⟨b, 1, none⟩ = some y ∧ (w3.alloc o).frozen? ⟨b, 0, none⟩ = false ∧ (w3.alloc o).frozen? ⟨b, 1, none⟩ = false) := by
    refine Lib.hid fun w3 o b x y t h hl => ?_
    have hne := Nat.ne_of_lt hl
    exact ⟨(World.cell?_alloc_old _ _ _ hne).trans (by simp [World.cell?, h]), (World.cell?_alloc_old _ _ _ hne).trans (by simp [World.cell?, h]), (World.frozen?_alloc_old _ _ _ hne).trans (by simp [World.frozen?, h]), (World.frozen?_alloc_old _ _ _ hne).trans (by simp [World.frozen?, h])⟩
  go_enter Tryz.func9, Tryz.ntmps9
  go_wp2_with (go_at_call 13; go_loud (rw [← hW2]; clear hW2; (with_reducible refine (LX.out W2).mono ?_); rintro e w3 ⟨rfl, hb3⟩; have HB3 := Lib.hid hb3; obtain ⟨hlt, hP, hF⟩ := AT.out w3 hb3; have HPP := Lib.hid (show _ ∧ _ from ⟨hP, hF⟩); have HLT := Lib.hid hlt; clear hb3))
  have hlt := HLT.out
  have hlt0 : W.heap.size < w3.heap.size := by omega
  obtain ⟨wd, hwd⟩ : ∃ wd, wd = w3.alloc (.cells #[.int .i64 c, .int .i64 f] 29) := ⟨_, rfl⟩
  have v := heap_alloc_new w3 (.cells #[.int .i64 c, .int .i64 f] 29)
  rw [← hwd] at v ⊢
  obtain ⟨p0', p1', p2', p3'⟩ : wd.cell? ⟨W.heap.size, 0, none⟩ = some (.slice none 0 0) ∧ wd.cell? ⟨W.heap.size, 1, none⟩ = some (.slice none 0 0) ∧ wd.frozen? ⟨W.heap.size, 0, none⟩ = false ∧ wd.frozen? ⟨W.heap.size, 1, none⟩ = false := by rw [hwd]; exact CP.out w3 _ W.heap.size _ _ _ hP hlt0
  obtain ⟨u0', u1', u2', u3'⟩ : wd.cell? ⟨W.heap.size + 1, 0, none⟩ = some (.int .i64 0) ∧ wd.cell? ⟨W.heap.size + 1, 1, none⟩ = some (.int .i64 0) ∧ wd.frozen? ⟨W.heap.size + 1, 0, none⟩ = false ∧ wd.frozen? ⟨W.heap.size + 1, 1, none⟩ = false := by rw [hwd]; exact CP.out w3 _ (W.heap.size + 1) _ _ _ hF hlt
  have v0 : wd.cell? ⟨w3.heap.size, 0, none⟩ = some (.int .i64 c) := by simp [World.cell?, v]
  have v1 : wd.cell? ⟨w3.heap.size, 1, none⟩ = some (.int .i64 f) := by simp [World.cell?, v]
  have hPd : wd.heap[W.heap.size]? = some (.cells #[.slice none 0 0, .slice none 0 0] 26 (0, 0)) := by rw [hwd, heap_alloc_old _ _ hlt0]; exact hP
  have hFd : wd.heap[W.heap.size + 1]? = some (.cells #[.int .i64 0, .int .i64 0] 29 (0, 0)) := by rw [hwd, heap_alloc_old _ _ hlt]; exact hF
  have hbd : Below W.heap.size W wd := by
    have h := HB2.out.trans (HB3.out.mono (by have := HS2.out; omega))
    rw [hwd]; exact h.alloc h.size _
  have HPD := Lib.hid (show _ ∧ _ ∧ _ from ⟨hPd, hFd, hbd⟩)
  clear hPd hFd hbd hwd v hP hF
  have mixed : Tryz.prog.follows .mixedOrders = true := by kernel_rfl
  have late : Tryz.prog.follows .lateStores = true := by kernel_rfl
  go_region_o
  go_wp2_with fail
  obtain ⟨X, hX⟩ : ∃ X, X = (((wd.setCell ⟨W.heap.size, 0, none⟩ (.slice none 0 0)).setCell ⟨W.heap.size, 1, none⟩ (.slice none 0 0)).setCell ⟨W.heap.size + 1, 0, none⟩ (.int .i64 c)).setCell ⟨W.heap.size + 1, 1, none⟩ (.int .i64 f) := ⟨_, rfl⟩
  rw [← hX]
  have k1 : X.heap[W.heap.size]? = some (.cells #[.slice none 0 0, .slice none 0 0] 26 (0, 0)) := by
    rw [hX, Below.heap_setCell _ _ _ _ (by simp), Below.heap_setCell _ _ _ _ (by simp), set_blk (set_blk HPD.out.1 0 _) 1 _]; rfl
  have k2 : X.heap[W.heap.size + 1]? = some (.cells #[.int .i64 c, .int .i64 f] 29 (0, 0)) := by
    rw [hX, set_blk (set_blk (((Below.heap_setCell _ _ _ _ (by simp)).trans (Below.heap_setCell _ _ _ _ (by simp))).trans HPD.out.2.1) 0 _) 1 _]; rfl
  have hbX : Below W.heap.size W X := by
    rw [hX]
    exact (((HPD.out.2.2.setCell (p := ⟨W.heap.size, 0, none⟩) (Nat.le_refl _) _).setCell (p := ⟨W.heap.size, 1, none⟩) (Nat.le_refl _) _).setCell (p := ⟨W.heap.size + 1, 0, none⟩) (Nat.le_succ _) _).setCell (p := ⟨W.heap.size + 1, 1, none⟩) (Nat.le_succ _) _
  have k1' : X.drew.heap[W.heap.size]? = some (.cells #[.slice none 0 0, .slice none 0 0] 26 (0, 0)) := k1
  have k2' : X.drew.heap[W.heap.size + 1]? = some (.cells #[.int .i64 c, .int .i64 f] 29 (0, 0)) := k2
  have r0 : X.drew.cell? ⟨W.heap.size, 0, none⟩ = some (.slice none 0 0) := by simp [World.cell?, k1']
  have r1 : X.drew.cell? ⟨W.heap.size, 1, none⟩ = some (.slice none 0 0) := by simp [World.cell?, k1']
  have r2 : X.drew.cell? ⟨W.heap.size + 1, 0, none⟩ = some (.int .i64 c) := by simp [World.cell?, k2']
  have r3 : X.drew.cell? ⟨W.heap.size + 1, 1, none⟩ = some (.int .i64 f) := by simp [World.cell?, k2']
  have hbY : Below W.heap.size W X.drew := hbX.trans (below_dr (Below.refl _ _) 1)
  exact bodyPost_ret (v := .tuple #[.agg #[.slice none 0 0, .slice none 0 0], .int .i64 0, .agg #[.int .i64 c, .int .i64 f]]) (by simp [results, Tryz.results9, go_sem, r0, r1, r2, r3]) rfl ⟨rfl, hbY⟩
end Go.Proofs.YtlbhlncipajapaaGreatDoor
namespace Go.Proofs.YtlbhlncipajapaaGreatDoor
open Lx
set_option linter.unusedVariables false

theorem exok_parts {k a b c p v : Int} {n : Nat} (hn : n ≤ 30000) (hk : 1 ≤ k ∧ k ≤ 21) (ha : 0 ≤ a ∧ a ≤ n) (hb : 0 ≤ b ∧ b ≤ n) (hc : 0 ≤ c ∧ c ≤ n) (hv : 0 ≤ v ∧ v ≤ 9223372036854775807) {nm st : ByteArray} (hnm : nm.size ≤ 20000) (hst : st.size ≤ 20000) {l : List Int} (hl : l.length ≤ 30000) (hla : ∀ x ∈ l, 0 ≤ x ∧ x < (n : Int)) : ExOk ⟨k, a, b, c, nm, st, v, l, p⟩ := by
  refine ⟨?_, ?_, ?_, ?_, ?_, ?_, ?_, ?_, ?_⟩
  · unfold i64ok; dsimp only; omega
  · unfold i64ok; dsimp only; omega
  · unfold i64ok; dsimp only; omega
  · unfold i64ok; dsimp only; omega
  · unfold i64ok; dsimp only; omega
  · unfold reachN; dsimp only; omega
  · unfold reachN; dsimp only; omega
  · unfold reachN; dsimp only; omega
  · intro x hx; have := hla x hx; unfold i64ok; omega
theorem zz (n : Nat) : (0 : Int) ≤ 0 ∧ (0 : Int) ≤ (n : Int) := by omega
theorem zv : (0 : Int) ≤ 0 ∧ (0 : Int) ≤ 9223372036854775807 := by omega
theorem sz0 : (⟨#[]⟩ : ByteArray).size = 0 := rfl
theorem good1 {k a p : Int} {n : Nat} (hn : n ≤ 30000) (hk : k = 4 ∨ k = 5 ∨ k = 16 ∨ k = 21) (ha : 0 ≤ a ∧ a < (n : Int)) : GoodX { ex0 with kind := k, a := a, pos := p } n := by
  refine ⟨?_, exok_parts hn (by first | omega | exact zz _ | exact zv) (by first | omega | exact zz _ | exact zv) (by first | omega | exact zz _ | exact zv) (by first | omega | exact zz _ | exact zv) (by first | omega | exact zz _ | exact zv) (by decide) (by decide) (by decide) (fun x hx => by cases hx)⟩
  rcases hk with rfl | rfl | rfl | rfl <;> simp [mayE, partsE, manyOf, ex0, namedK, mostV, ha, sz0]
theorem good2 {k a b p : Int} {n : Nat} (hn : n ≤ 30000) (hk : (6 ≤ k ∧ k ≤ 14) ∨ k = 17 ∨ k = 18) (ha : 0 ≤ a ∧ a < (n : Int)) (hb : 0 ≤ b ∧ b < (n : Int)) : GoodX { ex0 with kind := k, a := a, b := b, pos := p } n := by
  refine ⟨?_, exok_parts hn (by first | omega | exact zz _ | exact zv) (by first | omega | exact zz _ | exact zv) (by first | omega | exact zz _ | exact zv) (by first | omega | exact zz _ | exact zv) (by first | omega | exact zz _ | exact zv) (by decide) (by decide) (by decide) (fun x hx => by cases hx)⟩
  obtain rfl | rfl | rfl | rfl | rfl | rfl | rfl | rfl | rfl | rfl | rfl : k = 6 ∨ k = 7 ∨ k = 8 ∨ k = 9 ∨ k = 10 ∨ k = 11 ∨ k = 12 ∨ k = 13 ∨ k = 14 ∨ k = 17 ∨ k = 18 := by omega
  all_goals simp [mayE, partsE, manyOf, ex0, namedK, mostV, ha, hb, sz0]
theorem good3 {a b c p : Int} {n : Nat} (hn : n ≤ 30000) (ha : 0 ≤ a ∧ a < (n : Int)) (hb : 0 ≤ b ∧ b < (n : Int)) (hc : 0 ≤ c ∧ c < (n : Int)) : GoodX { ex0 with kind := 15, a := a, b := b, c := c, pos := p } n := by
  refine ⟨?_, exok_parts hn (by first | omega | exact zz _ | exact zv) (by first | omega | exact zz _ | exact zv) (by first | omega | exact zz _ | exact zv) (by first | omega | exact zz _ | exact zv) (by first | omega | exact zz _ | exact zv) (by decide) (by decide) (by decide) (fun x hx => by cases hx)⟩
  simp [mayE, partsE, manyOf, ex0, namedK, mostV, ha, hb, hc, sz0]
theorem goodN {v p : Int} {n : Nat} (hn : n ≤ 30000) (hv : 0 ≤ v ∧ v ≤ 9223372036854775807) : GoodX { ex0 with kind := 1, v := v, pos := p } n := by
  refine ⟨?_, exok_parts hn (by first | omega | exact zz _ | exact zv) (by first | omega | exact zz _ | exact zv) (by first | omega | exact zz _ | exact zv) (by first | omega | exact zz _ | exact zv) hv (by decide) (by decide) (by decide) (fun x hx => by cases hx)⟩
  simp [mayE, partsE, manyOf, ex0, namedK, mostV, hv, sz0]
theorem goodT {p : Int} {n : Nat} (hn : n ≤ 30000) : GoodX { ex0 with kind := 2, v := 1, pos := p } n := by
  refine ⟨?_, exok_parts hn (by first | omega | exact zz _ | exact zv) (by first | omega | exact zz _ | exact zv) (by first | omega | exact zz _ | exact zv) (by first | omega | exact zz _ | exact zv) (by first | omega | exact zz _ | exact zv) (by decide) (by decide) (by decide) (fun x hx => by cases hx)⟩
  simp [mayE, partsE, manyOf, ex0, namedK, mostV, sz0]
theorem goodF {p : Int} {n : Nat} (hn : n ≤ 30000) : GoodX { ex0 with kind := 2, pos := p } n := by
  refine ⟨?_, exok_parts hn (by first | omega | exact zz _ | exact zv) (by first | omega | exact zz _ | exact zv) (by first | omega | exact zz _ | exact zv) (by first | omega | exact zz _ | exact zv) (by first | omega | exact zz _ | exact zv) (by decide) (by decide) (by decide) (fun x hx => by cases hx)⟩
  simp [mayE, partsE, manyOf, ex0, namedK, mostV, sz0]
theorem str_sz (l : List UInt8) : (str l).size = l.length := by simp [str, ByteArray.size]
theorem good_nm {l : List UInt8} {p : Int} {n : Nat} (hn : n ≤ 30000) (h0 : l ≠ []) (h1 : l.length ≤ 20000) : GoodX { ex0 with kind := 3, name := str l, pos := p } n := by
  have hz : (str l).size ≠ 0 := by rw [str_sz]; exact fun h => h0 (List.length_eq_zero_iff.1 h)
  refine ⟨?_, exok_parts hn (by first | omega | exact zz _ | exact zv) (by first | omega | exact zz _ | exact zv) (by first | omega | exact zz _ | exact zv) (by first | omega | exact zz _ | exact zv) (by first | omega | exact zz _ | exact zv) (by rw [str_sz]; exact h1) (by decide) (by decide) (fun x hx => by cases hx)⟩
  simp [mayE, partsE, manyOf, ex0, namedK, mostV, sz0, hz]
theorem good_is {l m : List UInt8} {p : Int} {n : Nat} (hn : n ≤ 30000) (h0 : l ≠ []) (h1 : l.length ≤ 20000) (h2 : m ≠ []) (h3 : m.length ≤ 20000) : GoodX { ex0 with kind := 20, name := str l, state := str m, pos := p } n := by
  have hz : (str l).size ≠ 0 := by rw [str_sz]; exact fun h => h0 (List.length_eq_zero_iff.1 h)
  have hz2 : (str m).size ≠ 0 := by rw [str_sz]; exact fun h => h2 (List.length_eq_zero_iff.1 h)
  refine ⟨?_, exok_parts hn (by first | omega | exact zz _ | exact zv) (by first | omega | exact zz _ | exact zv) (by first | omega | exact zz _ | exact zv) (by first | omega | exact zz _ | exact zv) (by first | omega | exact zz _ | exact zv) (by rw [str_sz]; exact h1) (by rw [str_sz]; exact h3) (by decide) (fun x hx => by cases hx)⟩
  simp [mayE, partsE, manyOf, ex0, namedK, mostV, hz, hz2]
theorem good_call {l : List UInt8} {al : List Int} {p : Int} {n : Nat} (hn : n ≤ 30000) (h0 : l ≠ []) (h1 : l.length ≤ 20000) (ha : al.length ≤ 30000) (hv : ∀ x ∈ al, 0 ≤ x ∧ x < (n : Int)) : GoodX { ex0 with kind := 19, name := str l, args := al, pos := p } n := by
  have hz : (str l).size ≠ 0 := by rw [str_sz]; exact fun h => h0 (List.length_eq_zero_iff.1 h)
  refine ⟨?_, exok_parts hn (by first | omega | exact zz _ | exact zv) (by first | omega | exact zz _ | exact zv) (by first | omega | exact zz _ | exact zv) (by first | omega | exact zz _ | exact zv) (by first | omega | exact zz _ | exact zv) (by rw [str_sz]; exact h1) (by decide) ha hv⟩
  simp only [mayE, partsE, manyOf, ex0, namedK, mostV]
  simp [hz, sz0]
  exact fun x hx => hv x hx
end Go.Proofs.YtlbhlncipajapaaGreatDoor
namespace Go.Proofs.YtlbhlncipajapaaGreatDoor
open Lx
set_option linter.unusedVariables false

def rankJ : Job → Nat
  | .bin least => 10 - least
  | .atom => 1
  | _ => 0
def meas (ts : List Tok) (j : Job) (σ : RS) : Nat := (ts.length - σ.at_) * 1024 + (31 - σ.deep.toNat) * 16 + rankJ j
def JobOk (σ : RS) : Job → Prop
  | .atom => σ.code = 0
  | .bin least => 1 ≤ least ∧ least ≤ 6
  | .loop least a => 1 ≤ least ∧ least ≤ 5 ∧ IxOk σ a
  | .args acc => acc.length ≤ σ.at_ ∧ ∀ a ∈ acc, IxOk σ a
  | _ => True
def ResOk (τ : RS) (v : Int) (l : List Int) : Job → Prop
  | .args _ => l.length ≤ τ.at_ ∧ ∀ a ∈ l, IxOk τ a
  | _ => IxOk τ v
def Res (ts : List Tok) (j : Job) (σ : RS) : Prop := ∃ f v l τ, runE ts f j σ = some (v, l, τ) ∧ Go ts 0 σ τ ∧ τ.deep = σ.deep ∧ ResOk τ v l j
theorem rank_le (j : Job) (h : ∀ least, j = .bin least → 1 ≤ least) : rankJ j ≤ 9 := by
  cases j <;> simp [rankJ]
  rename_i least
  have := h least rfl
  omega
theorem meas_at {ts : List Tok} {j j' : Job} {σ σ' : RS} (h : σ.at_ < σ'.at_) (hl : σ.at_ < ts.length) (hr : rankJ j' ≤ 9) : meas ts j' σ' < meas ts j σ := by
  unfold meas
  have h1 : (31 - σ'.deep.toNat) * 16 ≤ 31 * 16 := Nat.mul_le_mul_right _ (by omega)
  have h2 : (ts.length - σ'.at_) * 1024 + 1024 ≤ (ts.length - σ.at_) * 1024 := by
    have : ts.length - σ'.at_ + 1 ≤ ts.length - σ.at_ := by omega
    have := Nat.mul_le_mul_right 1024 this
    omega
  omega
theorem meas_deep {ts : List Tok} {j j' : Job} {σ σ' : RS} (h : σ.at_ ≤ σ'.at_) (hd : σ'.deep = σ.deep + 1) (h0 : 0 ≤ σ.deep) (h30 : σ.deep ≤ 30) (hr : rankJ j' ≤ 9) : meas ts j' σ' < meas ts j σ := by
  unfold meas
  have h2 : (ts.length - σ'.at_) * 1024 ≤ (ts.length - σ.at_) * 1024 := Nat.mul_le_mul_right _ (by omega)
  rw [hd]
  omega
theorem meas_rank {ts : List Tok} {j j' : Job} {σ σ' : RS} (h : σ.at_ ≤ σ'.at_) (hd : σ'.deep = σ.deep) (hr : rankJ j' < rankJ j) : meas ts j' σ' < meas ts j σ := by
  unfold meas
  have h2 : (ts.length - σ'.at_) * 1024 ≤ (ts.length - σ.at_) * 1024 := Nat.mul_le_mul_right _ (by omega)
  rw [hd]
  omega
theorem runE_go {ts : List Tok} {f : Nat} {j : Job} {σ : RS} (h : okS σ = true) : runE ts (f + 1) j σ = (match j with
    | .expr => exprG ts (runE ts f) σ
    | .pre => preG ts (runE ts f) σ
    | .atom => atomG ts (runE ts f) σ
    | .bin least => binG (runE ts f) least σ
    | .loop least a => loopG ts (runE ts f) least a σ
    | .args acc => argsG ts (runE ts f) acc σ) := by
  unfold runE
  rw [if_pos h]
  cases j <;> rfl
theorem go_zero {ts : List Tok} {k : Nat} {σ τ : RS} (h : Go ts k σ τ) : Go ts 0 σ τ := h.less (Nat.zero_le _)
/-- what is put has its number -/
theorem ix_put (x : Ex) (τ : RS) : IxOk (putS x τ) (τ.exprs.length : Int) := fun _ => by unfold putS; simp; omega
theorem leave_ix {τ : RS} {v : Int} (h : IxOk τ v) : IxOk (leaveS τ) v := h
section
variable {ts : List Tok} (he : EndOk ts) (ht : TokOk ts)
include he
theorem tot_expr {σ : RS} (hs : St ts σ) (ih : ∀ j' σ', meas ts j' σ' < meas ts .expr σ → St ts σ' → JobOk σ' j' → Res ts j' σ') : Res ts .expr σ := by
  obtain ⟨ge, gd, ga, gx, gc⟩ := go_enter' (ts := ts) hs.lt
  obtain ⟨x, hx⟩ : ∃ x, x = enterS ts σ := ⟨_, rfl⟩
  rw [← hx] at ge gd ga gx gc
  have hd0 := hs.d0
  have hd30 := hs.d30
  by_cases h0 : x.code = 0
  · have hd := gc h0
    have sx : St ts x := hs.go ge (by omega) (by omega)
    cases hi : isS ts [105, 102] x with
    | true =>
      have g1 := go_step' he sx.lt (isS_kind hi).1
      have s1 : St ts (stepS x) := sx.go g1 (by show 0 ≤ x.deep; omega) (by show x.deep ≤ 30; omega)
      obtain ⟨f1, a, l1, τ1, r1, k1, d1, v1⟩ := ih .expr (stepS x) (meas_at (by unfold stepS; simp; omega) hs.lt (by simp [rankJ])) s1 trivial
      have q1 : τ1.deep = x.deep := d1
      have w1 := go_want he k1.lt [116, 104, 101, 110]
      have G2 := (g1.trans k1).trans w1
      have s2 : St ts (wantS ts [116, 104, 101, 110] τ1) := sx.go G2 (by rw [want_deep, q1]; omega) (by rw [want_deep, q1]; omega)
      obtain ⟨f2, b, l2, τ2, r2, k2, d2, v2⟩ := ih .expr _ (meas_at (by have := G2.room; have := G2.more; omega) hs.lt (by simp [rankJ])) s2 trivial
      have q2 : τ2.deep = x.deep := by rw [d2, want_deep, q1]
      have w2 := go_want he k2.lt [101, 108, 115, 101]
      have G3 := (G2.trans k2).trans w2
      have s3 : St ts (wantS ts [101, 108, 115, 101] τ2) := sx.go G3 (by rw [want_deep, q2]; omega) (by rw [want_deep, q2]; omega)
      obtain ⟨f3, c, l3, τ3, r3, k3, d3, v3⟩ := ih .expr _ (meas_at (by have := G3.room; have := G3.more; omega) hs.lt (by simp [rankJ])) s3 trivial
      have q3 : τ3.deep = x.deep := by rw [d3, want_deep, q2]
      have G4 := G3.trans k3
      have s4 : St ts τ3 := sx.go G4 (by omega) (by omega)
      have hn : τ3.exprs.length ≤ 30000 := by have := s4.room; have := s4.lt; have := s4.len; omega
      obtain ⟨X, hX⟩ : ∃ X : Ex, X = { ex0 with kind := 15, a := a, b := b, c := c, pos := ((tokL ts x.at_).at_ : Int) } := ⟨_, rfl⟩
      have P := (G4.less (m := 0 + 1) (by omega)).put (x := X) fun hz _ => hX ▸ good3 hn ((((IxOk.go v1 w1).go k2).go w2).go k3 hz) ((IxOk.go v2 w2).go k3 hz) (v3 hz)
      refine ⟨f1 + f2 + f3 + 1, (τ3.exprs.length : Int), [], leaveS (putS X τ3), ?_, ?_, ?_, leave_ix (ix_put X τ3)⟩
      · rw [runE_go hs.ok]
        simp only [exprG]
        rw [← hx, if_pos h0, if_pos hi, runE_le (f := f1) (by omega) _ _ _ r1]
        simp only [Option.bind_some]
        rw [runE_le (f := f2) (by omega) _ _ _ r2]
        simp only [Option.bind_some]
        rw [runE_le (f := f3) (by omega) _ _ _ r3]
        simp only [Option.bind_some]
        rw [putA_ok s4.ok, hX]
      · exact go_zero ((ge.trans P).trans (go_leave P.lt))
      · show τ3.deep - 1 = σ.deep; omega
    | false =>
      have hi2 : ¬ isS ts [105, 102] x = true := by rw [hi]; simp
      obtain ⟨f1, o, l1, y, r1, k1, d1, v1⟩ := ih (.bin 1) x (meas_deep (by omega) gd hd0 hd30 (by simp [rankJ])) sx ⟨by omega, by omega⟩
      have sy : St ts y := sx.go k1 (by omega) (by omega)
      have arm : ∀ (s : List UInt8) (k : Int), (k = 17 ∨ k = 18) → isS ts s y = true → ∃ f b l3 τ X, X = { ex0 with kind := k, a := o, b := b, pos := ((tokL ts y.at_).at_ : Int) } ∧ runE ts f .expr (stepS y) = some (b, l3, τ) ∧ okS τ = true ∧ Go ts 0 y (putS X τ) ∧ τ.deep = y.deep := by
        intro s k hk hs2
        have g1 := go_step' he sy.lt (isS_kind hs2).1
        have s1 : St ts (stepS y) := sy.go g1 (by show 0 ≤ y.deep; omega) (by show y.deep ≤ 30; omega)
        obtain ⟨f2, b, l2, τ, r2, k2, d2, v2⟩ := ih .expr (stepS y) (meas_at (by have := k1.at_; unfold stepS; simp; omega) hs.lt (by simp [rankJ])) s1 trivial
        have q2 : τ.deep = y.deep := d2
        have G2 := g1.trans k2
        have s2 : St ts τ := sy.go G2 (by omega) (by omega)
        have hn : τ.exprs.length ≤ 30000 := by have := s2.room; have := s2.lt; have := s2.len; omega
        exact ⟨f2, b, l2, τ, _, rfl, r2, s2.ok, (G2.less (m := 0 + 1) (by omega)).put fun hz _ => good2 hn (by omega) ((IxOk.go v1 g1).go k2 hz) (v2 hz), q2⟩
      by_cases h3 : isS ts [45, 62] y = true
      · obtain ⟨f2, b, l3, τ, X, hX, r2, o2, P, q2⟩ := arm [45, 62] 17 (.inl rfl) h3
        refine ⟨f1 + f2 + 1, (τ.exprs.length : Int), [], leaveS (putS X τ), ?_, go_zero (((ge.trans k1).trans P).trans (go_leave P.lt)), by show τ.deep - 1 = σ.deep; omega, leave_ix (ix_put X τ)⟩
        rw [runE_go hs.ok]
        simp only [exprG]
        rw [← hx, if_pos h0, if_neg hi2, runE_le (f := f1) (by omega) _ _ _ r1]
        simp only [Option.bind_some]
        rw [if_pos h3, runE_le (f := f2) (by omega) _ _ _ r2]
        simp only [Option.bind_some]
        rw [putA_ok o2, hX]
      · by_cases h4 : isS ts [102, 98, 121] y = true
        · obtain ⟨f2, b, l3, τ, X, hX, r2, o2, P, q2⟩ := arm [102, 98, 121] 18 (.inr rfl) h4
          refine ⟨f1 + f2 + 1, (τ.exprs.length : Int), [], leaveS (putS X τ), ?_, go_zero (((ge.trans k1).trans P).trans (go_leave P.lt)), by show τ.deep - 1 = σ.deep; omega, leave_ix (ix_put X τ)⟩
          rw [runE_go hs.ok]
          simp only [exprG]
          rw [← hx, if_pos h0, if_neg hi2, runE_le (f := f1) (by omega) _ _ _ r1]
          simp only [Option.bind_some]
          rw [if_neg h3, if_pos h4, runE_le (f := f2) (by omega) _ _ _ r2]
          simp only [Option.bind_some]
          rw [putA_ok o2, hX]
        · refine ⟨f1 + 1, o, [], leaveS y, ?_, go_zero ((ge.trans k1).trans (go_leave k1.lt)), by show y.deep - 1 = σ.deep; omega, leave_ix v1⟩
          rw [runE_go hs.ok]
          simp only [exprG]
          rw [← hx, if_pos h0, if_neg hi2, runE_le (f := f1) (by omega) _ _ _ r1]
          simp only [Option.bind_some]
          rw [if_neg h3, if_neg h4, if_pos sy.ok]
  · refine ⟨1, 0, [], leaveS x, ?_, go_zero (ge.trans (go_leave ge.lt)), by show x.deep - 1 = σ.deep; omega, fun hz => absurd hz h0⟩
    rw [runE_go hs.ok]
    simp only [exprG]
    rw [← hx, if_neg h0]
end
end Go.Proofs.YtlbhlncipajapaaGreatDoor
