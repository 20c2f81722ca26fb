/- code.sum: the sum of bytes. -/
import Derived.Test.YtodblepbedhnnaaCoPut
namespace Go.Proofs.Ytodblepbedhnnaa
open Go.RowKit Co

/-- a slice of bytes -/
def BytesAt (w : World) (s : Value) (l : List UInt8) : Prop := SlAt s l.length 1 fun b o i => ∀ x, l[i]? = some x → w.cell? ⟨b, o, none⟩ = some (.int .u8 (x.toNat : Int))
theorem BytesAt.below {w w' : World} {s : Value} {l : List UInt8} (h : BytesAt w s l) (hb : Below w.heap.size w w') : BytesAt w' s l := h.mono fun _ _ _ _ h x hx => cell_on hb (h x hx)
theorem ix_bytes {o : Option Addr} {n cap b off : Nat} (h : 0 < n → o = some ⟨b, off, none⟩) {j : Nat} (hj : j < n) (hn : n ≤ 9223372036854775807) : Ix 29 1 (.slice o n cap) b off j := by
  intro W
  rw [h (by omega)]
  have h1 : (j : Int) < (n : Int) := by omega
  have h2 : (j : Int) ≤ 9223372036854775807 := by omega
  go_simp
theorem results_cell {fn : Func} {t : Tmp} {ty : TypeId} {P : Program} {w : World} {v : Value} (h : fn.results = #[.cell t ty]) (tmps : Array Value) (a : Addr) (ha : tmps.getD t undef = .pointer (some a)) (hl : (loadVar ty a).run P w = .ok v w) : (results fn tmps).run P w = .ok v w := by
  have ha' : tmps[t]?.getD undef = .pointer (some a) := by simpa [Array.getD_eq_getD_getElem?] using ha
  simp [results, h, ha', hl, asAddr]
/-- four bytes of a number -/
def fourV (s : Nat) : Array Value := #[.int .u8 ((s : Int) % 256), .int .u8 ((s : Int) / 256 % 256), .int .u8 ((s : Int) / 65536 % 256), .int .u8 ((s : Int) / 16777216)]
theorem four_cells {s : Nat} (h : s < 4294967296) : (fourV s).toList = bc (four s) := by
  unfold fourV bc four
  simp only [List.map_cons, List.map_nil]
  rw [byte_val (by omega), byte_val (by omega), byte_val (by omega), byte_val (by omega)]
  simp only [List.cons.injEq, Value.int.injEq, true_and, and_true]
  omega
theorem cells_four {W : World} {B : Nat} {a b c d : Value} {T : TypeId} (h : W.heap[B]? = some (.cells #[a, b, c, d] T (0, 0))) : (W.cell? ⟨B, 0, none⟩ = some a ∧ W.cell? ⟨B, 1, none⟩ = some b ∧ W.cell? ⟨B, 2, none⟩ = some c ∧ W.cell? ⟨B, 3, none⟩ = some d) ∧ W.frozen? ⟨B, 0, none⟩ = false ∧ W.frozen? ⟨B, 1, none⟩ = false ∧ W.frozen? ⟨B, 2, none⟩ = false ∧ W.frozen? ⟨B, 3, none⟩ = false :=
  ⟨⟨by simp [World.cell?, h], by simp [World.cell?, h], by simp [World.cell?, h], by simp [World.cell?, h]⟩, by simp [World.frozen?, h], by simp [World.frozen?, h], by simp [World.frozen?, h], by simp [World.frozen?, h]⟩
theorem four_box {W : World} {B : Nat} {T : TypeId} {v0 v1 v2 v3 u0 u1 u2 u3 : Value} (h : W.heap[B]? = some (.cells #[u0, u1, u2, u3] T (0, 0))) : ((((W.setCell ⟨B, 0, none⟩ v0).setCell ⟨B, 1, none⟩ v1).setCell ⟨B, 2, none⟩ v2).setCell ⟨B, 3, none⟩ v3).heap[B]? = some (.cells #[v0, v1, v2, v3] T (0, 0)) := by
  have e : ((((#[u0, u1, u2, u3] : Array Value).setIfInBounds 0 v0).setIfInBounds 1 v1).setIfInBounds 2 v2).setIfInBounds 3 v3 = #[v0, v1, v2, v3] := by simp
  rw [← e]
  exact set_heap (set_heap (set_heap (set_heap h 0 v0) 1 v1) 2 v2) 3 v3
theorem four_end {W : World} {B : Nat} {v0 v1 v2 v3 : Value} (h : W.heap[B]? = some (.cells #[v0, v1, v2, v3] 42 (0, 0))) : (loadVar 42 ⟨B, 0, none⟩).run Try.prog W = .ok (.agg #[v0, v1, v2, v3]) W :=
  run_loadVar_row _ _ _ _ _ _ _ h Try.underlying42 rfl (by kernel_rfl)
theorem sumN_next {l : List UInt8} {c : Nat} {x : UInt8} (h : l[c]? = some x) : sumN (l.take (c + 1)) = stepN (sumN (l.take c)) x := by
  rw [take_next h]
  unfold sumN sumFrom
  rw [List.foldl_append, List.foldl_cons, List.foldl_nil]
set_option maxHeartbeats 8000000 in
set_option maxRecDepth 100000 in
theorem sum_any (l : List UInt8) (s : Value) (w : World) (hs : BytesAt w s l) (hl : l.length ≤ 1000000) :
    Calls Try.prog 17 #[s] w fun e w' => e = .returned (.agg (fourV (sumN l))) ∧ Below w.heap.size w w' := by
  obtain ⟨o, cap, b, off, rfl, _, _, e1, c1⟩ := hs
  obtain ⟨n, hn⟩ : ∃ n, n = l.length := ⟨_, rfl⟩
  rw [← hn] at e1 c1 hl ⊢
  have HN := Lib.hid hn
  have E1 := Lib.hid e1
  have C1 := Lib.hid c1
  have hnl : (n : Int) ≤ 1000000 := by omega
  obtain ⟨S, hS⟩ : ∃ S, S = sumN l := ⟨_, rfl⟩
  rw [← hS]
  have HS := Lib.hid hS
  clear hn e1 c1 hl hS
  go_enter Try.func17, Try.ntmps17
  go_wp2_with fail
  go_loopw [8, 3] (fun i t wr => ∃ (c : Nat), i = .int .i64 (c : Int) ∧ t = .int .u32 ((sumN (l.take c) : Nat) : Int) ∧ c ≤ n ∧ Hid (Below w.heap.size w wr) ∧ Hid (wr.heap[w.heap.size]? = some (.cells #[.int .u8 0, .int .u8 0, .int .u8 0, .int .u8 0] 42 (0, 0)))) (fun i _ _ => match i with | .int _ z => n - z.toNat | _ => 0)
  case atStart => exact ⟨0, rfl, rfl, Nat.zero_le _, Lib.hid ((Below.refl _ w).alloc (Nat.le_refl _) _), Lib.hid (heap_alloc_new w _)⟩
  case round =>
    obtain ⟨c, rfl, rfl, hc, hB, hX⟩ := hrel
    rcases Nat.lt_or_ge c n with hlt | hge
    · have hcl : (c : Int) < (n : Int) := by omega
      obtain ⟨x, hx⟩ : ∃ x, l[c]? = some x := ⟨_, List.getElem?_eq_getElem (by rw [← HN.out]; exact hlt)⟩
      have hsn := sumN_next hx
      have hlt1 := sumN_lt (l.take c)
      have hlt2 := sumN_lt (l.take (c + 1))
      have r1 := cell_on (((Below.refl _ w).mono (Nat.le_refl _)).trans hB.out) (C1.out c hlt x hx)
      have ix1 := ix_bytes (cap := cap) E1.out hlt (by omega)
      unfold Ix at ix1
      rw [Nat.mul_one] at r1 ix1
      have xl : x.toNat < 256 := x.toNat_lt
      obtain ⟨σ, hσ⟩ : ∃ σ, σ = sumN (l.take c) := ⟨_, rfl⟩
      obtain ⟨τ, hτ⟩ : ∃ τ, τ = sumN (l.take (c + 1)) := ⟨_, rfl⟩
      obtain ⟨ξ, hξ⟩ : ∃ ξ, ξ = x.toNat := ⟨_, rfl⟩
      have x1 := u32_xor_nat σ ξ (by omega) (by omega)
      have xr := xor_lt (s := σ) (t := ξ) (by omega) (by omega)
      have st : τ = (σ ^^^ ξ) * 16777619 % 4294967296 := by rw [hτ, hsn, hσ, hξ]; rfl
      obtain ⟨ρ, hρ⟩ : ∃ ρ, ρ = σ ^^^ ξ := ⟨_, rfl⟩
      rw [← hρ] at x1 xr st
      have x2 : IntKind.u32.wrap ((ρ : Int) * 16777619) = (τ : Int) := by rw [IntKind.wrap_u32']; omega
      have s1 : (σ : Int) ≤ 4294967295 := by omega
      have s2 : (ξ : Int) ≤ 255 := by omega
      have s3 : (ρ : Int) ≤ 4294967295 := by omega
      have HT := Lib.hid hτ
      rw [← hξ] at r1
      rw [← hσ]
      clear hsn hlt1 hlt2 xl hσ hτ hξ hx xr st hρ
      go_wp2_with fail
      exact ⟨⟨c + 1, by go_num, by rw [HT.out], by omega, hB, hX⟩, by simp; omega⟩
    · obtain rfl : c = n := by omega
      have hno : ¬ (c : Int) < (c : Int) := by omega
      have hSS : sumN (l.take c) = S := by rw [HS.out, HN.out, List.take_length]
      rw [hSS]
      have hlt := sumN_lt l
      rw [← HS.out] at hlt
      have s1 : (S : Int) ≤ 4294967295 := by omega
      obtain ⟨⟨d0, d1, d2, d3⟩, g0, g1, g2, g3⟩ := cells_four hX.out
      clear hSS hlt
      go_wp2_with fail
      refine bodyPost_ret (results_cell rfl _ ⟨w.heap.size, 0, none⟩ rfl (four_end (four_box hX.out))) rfl ⟨rfl, ?_⟩
      exact (((hB.out.setCell (p := ⟨w.heap.size, 0, none⟩) (Nat.le_refl _) _).setCell (p := ⟨w.heap.size, 1, none⟩) (Nat.le_refl _) _).setCell (p := ⟨w.heap.size, 2, none⟩) (Nat.le_refl _) _).setCell (p := ⟨w.heap.size, 3, none⟩) (Nat.le_refl _) _
end Go.Proofs.Ytodblepbedhnnaa
