/- ast.parts' iterator, handed a closure of its own kind: tree's walk. -/
import Derived.Test.YtcgkgobkchgdhaaMetKit
import Derived.Test.YtcgkgobkchgdhaaRangeW
namespace Go.Proofs.Ytcgkgobkchgdhaa
open Go.RowKit Go.Shelf

attribute [local go_sem] Oper.semAt_some

/-- the closure tree$1$1 as a value: yield's box, more's, the program's, its own -/
def walkV (y0 m0 b0 w0 : Nat) : Value := .func (.func 53) #[] #[.pointer (some ⟨y0, 0, none⟩), .pointer (some ⟨m0, 0, none⟩), .pointer (some ⟨b0, 0, none⟩), .pointer (some ⟨w0, 0, none⟩)]
set_option maxHeartbeats 8000000 in
set_option maxRecDepth 100000 in
theorem partsFn_core (F : Fence) (n : Nat) (hF : F = Fence.wide) (hn : 1 ≤ n) (x : Ex) (o : Option Addr) (cap ba offa na : Nat) (hna : Hid (x.args.length = na)) (nl : (na : Int) ≤ 9223372036854775807) (M : Nat → Prop) (rw : World → Option Nat) (B : Nat) (w : World)
    (hA : Hid (Around M rw w)) (hB : Hid (Still M rw w B)) (hc : Hid (w.heap[B]? = some (.cells (exCells x (.slice o na cap)) 31 (0, 0)))) (ho : Hid (0 < na → o = some ⟨ba, offa, none⟩))
    (hS : Hid (0 < na → x.kind = 19 → Still M rw w ba ∧ (∃ cs T fr, w.heap[ba]? = some (.cells cs T fr)))) (hv : Hid (∀ j, j < na → w.cell? ⟨ba, offa + j, none⟩ = some (.int .i64 (x.args.getD j 0)))) (y0 m0 b0 w0 : Nat) (n₁ : Nat) (J Jx : List (PartOf x) → World → Prop)
    (W : World) (hW : Hid (Below w.heap.size w W)) (hJ : Hid (∀ s X Y, J s X → X.grownBy Y none → J s Y))
    (hY : Hid (∀ pre (p : PartOf x) W1, J pre W1 → pre.length < (partsE x).length → CallsIn F (n - 1) Try.prog 53 #[.int .i64 p.1, .pointer (some ⟨y0, 0, none⟩), .pointer (some ⟨m0, 0, none⟩), .pointer (some ⟨b0, 0, none⟩), .pointer (some ⟨w0, 0, none⟩)] W1 fun e W' =>
      (e = .returned (.bool true) ∧ J (pre ++ [p]) W' ∧ KeepM M rw n₁ W1 W') ∨ (e = .returned (.bool false) ∧ Jx (pre ++ [p]) W')))
    (h0 : Hid (J [] W)) :
    CallsIn F n Try.prog 49 #[walkV y0 m0 b0 w0, .pointer (some ⟨B, 0, none⟩)] W fun e W' => (∃ v, e = .returned v) ∧
      ((∃ ys : List (PartOf x), ys.map (·.1) = partsE x ∧ J ys W') ∨ (∃ pre : List (PartOf x), pre.map (·.1) <+: partsE x ∧ Jx pre W')) := by
  subst hF
  unfold walkV
  have hBW : W.heap[B]? = some (.cells (exCells x (.slice o na cap)) 31 (0, 0)) := (hW.out.block _ hB.out.1).trans hc.out
  have hBlt := Nat.lt_of_lt_of_le hB.out.1 hW.out.size
  have c0 : W.cell? ⟨B, 0, none⟩ = some (.int .i64 x.kind) := by simp [World.cell?, hBW, exCells]
  have c1 : W.cell? ⟨B, 1, none⟩ = some (.int .i64 x.a) := by simp [World.cell?, hBW, exCells]
  have c2 : W.cell? ⟨B, 2, none⟩ = some (.int .i64 x.b) := by simp [World.cell?, hBW, exCells]
  have c3 : W.cell? ⟨B, 3, none⟩ = some (.int .i64 x.c) := by simp [World.cell?, hBW, exCells]
  have c7 : W.cell? ⟨B, 7, none⟩ = some (.slice o na cap) := by simp [World.cell?, hBW, exCells]
  clear hBW
  have hmn := manyOf_le x.kind
  refine callsIn_of_wp Try.func49 rfl trivial ?_ rfl
  simp only [Try.ntmps49, List.size_toArray, List.length_cons, List.length_nil, Nat.reduceAdd, Nat.reduceSub, Array.replicate_succ, Array.replicate_zero, List.push_toArray, List.append_toArray, List.nil_append, List.cons_append]
  have hba := Lib.hid ((Below.refl W.heap.size W).alloc (Nat.le_refl _) (.cells #[.int .i64 x.a, .int .i64 x.b, .int .i64 x.c] 78))
  have hsl := slice_to W.heap.size (manyOf x.kind) hmn
  obtain ⟨m, S, offS, so, capS, hcase⟩ : ∃ (m S offS : Nat) (so : Option Addr) (capS : Nat), Hid ((x.kind = 19 ∧ m = na ∧ S = ba ∧ offS = offa ∧ so = o ∧ capS = cap) ∨ (¬ x.kind = 19 ∧ m = manyOf x.kind ∧ S = W.heap.size ∧ offS = 0 ∧ so = some ⟨W.heap.size, 0, none⟩ ∧ capS = 3)) := by
    by_cases h19 : x.kind = 19
    · exact ⟨_, _, _, _, _, Lib.hid (.inl ⟨h19, rfl, rfl, rfl, rfl, rfl⟩)⟩
    · exact ⟨_, _, _, _, _, Lib.hid (.inr ⟨h19, rfl, rfl, rfl, rfl, rfl⟩)⟩
  have hml : (m : Int) ≤ 9223372036854775807 := by
    rcases hcase.out with ⟨_, rfl, _⟩ | ⟨_, rfl, _⟩ <;> omega
  have hlen : Hid ((partsE x).length = m) := Lib.hid (by
    rcases hcase.out with ⟨h19, rfl, _⟩ | ⟨h19, rfl, _⟩
    · rw [partsE_19 h19]; exact hna.out
    · exact partsE_len h19)
  have hix : Hid (∀ j, j < m → Ix 28 1 (.slice so m capS) S offS j) := Lib.hid (by
    intro j hj
    rcases hcase.out with ⟨h19, rfl, rfl, rfl, rfl, rfl⟩ | ⟨h19, rfl, rfl, rfl, rfl, rfl⟩
    · exact ix_ints ho.out hj (by omega)
    · exact ix_arr hj (by omega))
  have hsrc : Hid (0 < m → SrcOk M rw w (W.alloc (.cells #[.int .i64 x.a, .int .i64 x.b, .int .i64 x.c] 78)) S) := Lib.hid (by
    intro hm
    rcases hcase.out with ⟨h19, rfl, rfl, rfl, rfl, rfl⟩ | ⟨h19, rfl, rfl, rfl, rfl, rfl⟩
    · obtain ⟨⟨s1, s2, s3⟩, cs, T, fr, hcs⟩ := hS.out hm h19
      have hlt := Nat.lt_of_lt_of_le s1 hW.out.size
      exact ⟨s2, by simp; omega, s3, _, (hba.out.block _ hlt).trans ((hW.out.block _ s1).trans hcs), rfl⟩
    · refine ⟨fun hh => ?_, by simp, fun hh => ?_, _, World.alloc_heap_new W _, rfl⟩
      · have := hA.out.old _ hh; have := hW.out.size; omega
      · have := hA.out.row _ hh; have := hW.out.size; omega)
  have hcell : Hid (∀ j, j < m → (W.alloc (.cells #[.int .i64 x.a, .int .i64 x.b, .int .i64 x.c] 78)).cell? ⟨S, offS + j, none⟩ = some (.int .i64 ((partsE x).getD j 0))) := Lib.hid (by
    intro j hj
    rcases hcase.out with ⟨h19, rfl, rfl, rfl, rfl, rfl⟩ | ⟨h19, rfl, rfl, rfl, rfl, rfl⟩
    · obtain ⟨⟨s1, s2, s3⟩, _⟩ := hS.out (by omega) h19
      have hlt := Nat.lt_of_lt_of_le s1 hW.out.size
      rw [cell_same' (hba.out.block _ hlt), cell_same' (hW.out.block _ s1), hv.out j hj, partsE_19 h19]
    · rw [partsE_get h19 hj, Nat.zero_add, World.cell?_alloc_new]
      match j, Nat.lt_of_lt_of_le hj hmn with
      | 0, _ => rfl
      | 1, _ => rfl
      | 2, _ => rfl)
  have hst : Hid (SrcAt rw w (W.alloc (.cells #[.int .i64 x.a, .int .i64 x.b, .int .i64 x.c] 78)) m S (W.alloc (.cells #[.int .i64 x.a, .int .i64 x.b, .int .i64 x.c] 78))) := Lib.hid ⟨Nat.le_refl _, fun k hk => .inl (by
    rwa [hA.out.same _ (hW.out.trans (hba.out.mono hW.out.size))] at hk), fun _ => rfl⟩
  have hJ1 := Lib.hid (hJ.out _ _ _ h0.out (World.grownBy_alloc W (.cells #[.int .i64 x.a, .int .i64 x.b, .int .i64 x.c] 78) none))
  by_cases h19 : x.kind = 19
  · obtain ⟨_, rfl, rfl, rfl, rfl, rfl⟩ | ⟨h, _⟩ := hcase.out
    · rw [h19] at hsl c0
      gi_wp2_with (refine ⟨trivial, ?_⟩; gi_at_call 50; ((with_reducible refine (callsIn_wide.2 (fixed_any _ _)).mono ?_); rintro e w1 ⟨rfl, rfl⟩))
      clear hsl c0 c1 c2 c3 c7
      gi_loopw [25] (fun i wr => ∃ (j : Nat) (pre : List (PartOf x)), i = .int .i64 j ∧ Hid (j ≤ m) ∧ Hid (pre.map (·.1) = (partsE x).take j) ∧ Hid (J pre wr) ∧ Hid (SrcAt rw w (W.alloc (.cells #[.int .i64 x.a, .int .i64 x.b, .int .i64 x.c] 78)) (m) S wr)) (fun i _ => m - litLen i)
      case atStart => exact ⟨0, [], rfl, Lib.hid (Nat.zero_le _), Lib.hid rfl, hJ1, hst⟩
      case round =>
        obtain ⟨j, pre, rfl, hj, hpre, hJp, hSr⟩ := hrel
        have jl := hj.out
        rcases Nat.lt_or_ge j (m) with hlt | hge
        · have q3 : (j : Int) < (m : Int) := by omega
          have ix := hix.out j hlt
          unfold Ix at ix
          have hjl : j < (partsE x).length := by rw [hlen.out]; exact hlt
          obtain ⟨p, hp⟩ : ∃ p, p = (partsE x).getD j 0 := ⟨_, rfl⟩
          have hmem : p ∈ partsE x := by rw [hp, List.getD_eq_getElem?_getD, List.getElem?_eq_getElem hjl]; exact List.getElem_mem hjl
          have xj := (cell_same' (hSr.out.2.2 (by omega)) (offS + j)).trans (hcell.out j hlt)
          rw [← hp] at xj
          have hR := hY.out pre ⟨p, hmem⟩ wr hJp.out (by rw [show pre.length = j by have := congrArg List.length hpre.out; simpa [List.length_take, Nat.min_eq_left (Nat.le_of_lt hjl)] using this]; exact hjl)
          have HR := Lib.hid hR
          have hpre' := Lib.hid (take_pre (p := ⟨p, hmem⟩) hpre.out hjl hp)
          clear hR hp
          gi_wp2_with (fail)
          refine ⟨trivial, ?_⟩
          refine HR.out.mono ?_
          rintro e W3 (⟨rfl, hJ3, hk3⟩ | ⟨rfl, hJx3⟩)
          · have hS3 := Lib.hid (hSr.out.keep hk3 hsrc.out)
            have HJ3 := Lib.hid hJ3
            clear hJ3 hk3
            gi_wp2
            go_roundw
            case rel => exact ⟨j + 1, _, by go_num, Lib.hid (by omega), hpre', HJ3, hS3⟩
            case measure => simp [litLen]; omega
          · gi_wp2
            refine bodyPost_ret (results_none rfl _ _ _) rfl ?_
            exact ⟨⟨_, rfl⟩, .inr ⟨_, ⟨(partsE x).drop (j + 1), by rw [hpre'.out, List.take_append_drop]⟩, hJx3⟩⟩
        · obtain rfl : m = j := by omega
          gi_wp2
          go_end0
          exact ⟨⟨_, rfl⟩, .inl ⟨pre, by rw [hpre.out, ← hlen.out, List.take_length], hJp.out⟩⟩
    · exact absurd h19 h
  · obtain ⟨h, _⟩ | ⟨_, rfl, rfl, rfl, rfl, rfl⟩ := hcase.out
    · exact absurd h h19
    · have e19 : (x.kind == 19) = false := beq_false_of_ne h19
      gi_wp2_with (refine ⟨trivial, ?_⟩; gi_at_call 50; ((with_reducible refine (callsIn_wide.2 (fixed_any _ _)).mono ?_); rintro e w1 ⟨rfl, rfl⟩))
      clear hsl c0 c1 c2 c3 c7
      gi_loopw [25] (fun i wr => ∃ (j : Nat) (pre : List (PartOf x)), i = .int .i64 j ∧ Hid (j ≤ manyOf x.kind) ∧ Hid (pre.map (·.1) = (partsE x).take j) ∧ Hid (J pre wr) ∧ Hid (SrcAt rw w (W.alloc (.cells #[.int .i64 x.a, .int .i64 x.b, .int .i64 x.c] 78)) (manyOf x.kind) W.heap.size wr)) (fun i _ => manyOf x.kind - litLen i)
      case atStart => exact ⟨0, [], rfl, Lib.hid (Nat.zero_le _), Lib.hid rfl, hJ1, hst⟩
      case round =>
        obtain ⟨j, pre, rfl, hj, hpre, hJp, hSr⟩ := hrel
        have jl := hj.out
        rcases Nat.lt_or_ge j (manyOf x.kind) with hlt | hge
        · have q3 : (j : Int) < ((manyOf x.kind : Nat) : Int) := by omega
          have ix := hix.out j hlt
          unfold Ix at ix
          have hjl : j < (partsE x).length := by rw [hlen.out]; exact hlt
          obtain ⟨p, hp⟩ : ∃ p, p = (partsE x).getD j 0 := ⟨_, rfl⟩
          have hmem : p ∈ partsE x := by rw [hp, List.getD_eq_getElem?_getD, List.getElem?_eq_getElem hjl]; exact List.getElem_mem hjl
          have xj := (cell_same' (hSr.out.2.2 (by omega)) (0 + j)).trans (hcell.out j hlt)
          rw [← hp, Nat.zero_add] at xj
          have hR := hY.out pre ⟨p, hmem⟩ wr hJp.out (by rw [show pre.length = j by have := congrArg List.length hpre.out; simpa [List.length_take, Nat.min_eq_left (Nat.le_of_lt hjl)] using this]; exact hjl)
          have HR := Lib.hid hR
          have hpre' := Lib.hid (take_pre (p := ⟨p, hmem⟩) hpre.out hjl hp)
          clear hR hp
          gi_wp2_with (fail)
          refine ⟨trivial, ?_⟩
          refine HR.out.mono ?_
          rintro e W3 (⟨rfl, hJ3, hk3⟩ | ⟨rfl, hJx3⟩)
          · have hS3 := Lib.hid (hSr.out.keep hk3 hsrc.out)
            have HJ3 := Lib.hid hJ3
            clear hJ3 hk3
            gi_wp2
            go_roundw
            case rel => exact ⟨j + 1, _, by go_num, Lib.hid (by omega), hpre', HJ3, hS3⟩
            case measure => simp [litLen]; omega
          · gi_wp2
            refine bodyPost_ret (results_none rfl _ _ _) rfl ?_
            exact ⟨⟨_, rfl⟩, .inr ⟨_, ⟨(partsE x).drop (j + 1), by rw [hpre'.out, List.take_append_drop]⟩, hJx3⟩⟩
        · have hjm : j = manyOf x.kind := by omega
          have hst2 := Lib.hid hpre.out
          have q3 : decide ((j : Int) < ((manyOf x.kind : Nat) : Int)) = false := decide_eq_false (by omega)
          have HJM := Lib.hid hjm
          clear hjm
          gi_wp2
          go_end0
          exact ⟨⟨_, rfl⟩, .inl ⟨pre, by rw [hst2.out, HJM.out, ← hlen.out, List.take_length], hJp.out⟩⟩
theorem partsFn_any (n : Nat) (hn : 1 ≤ n) (x : Ex) (B : Nat) (M : Nat → Prop) (rw : World → Option Nat) (w : World) (hA : Around M rw w) (hs : Srcs w x B (fun k => M k ∨ rw w = some k)) (y0 m0 b0 w0 n₁ : Nat) (J Jx : List (PartOf x) → World → Prop) (W : World) (hW : Below w.heap.size w W)
    (hJ : ∀ s X Y, J s X → X.grownBy Y none → J s Y)
    (hY : ∀ pre (p : PartOf x) W1, J pre W1 → pre.length < (partsE x).length → CallsIn Fence.wide (n - 1) Try.prog 53 #[.int .i64 p.1, .pointer (some ⟨y0, 0, none⟩), .pointer (some ⟨m0, 0, none⟩), .pointer (some ⟨b0, 0, none⟩), .pointer (some ⟨w0, 0, none⟩)] W1 fun e W' =>
      (e = .returned (.bool true) ∧ J (pre ++ [p]) W' ∧ KeepM M rw n₁ W1 W') ∨ (e = .returned (.bool false) ∧ Jx (pre ++ [p]) W'))
    (h0 : J [] W) :
    CallsIn Fence.wide n Try.prog 49 #[walkV y0 m0 b0 w0, .pointer (some ⟨B, 0, none⟩)] W fun e W' => (∃ v, e = .returned v) ∧
      ((∃ ys : List (PartOf x), ys.map (·.1) = partsE x ∧ J ys W') ∨ (∃ pre : List (PartOf x), pre.map (·.1) <+: partsE x ∧ Jx pre W')) := by
  obtain ⟨o, cap, ba, offa, h1, h2, h3, h4, h5, h6⟩ := hs
  have hlt : ∀ {k : Nat} {o : Obj}, w.heap[k]? = some o → k < w.heap.size := fun h => (Array.getElem?_eq_some_iff.1 h).1
  unfold reachN at h2
  exact partsFn_core Fence.wide n rfl hn x o cap ba offa _ (Lib.hid rfl) (by omega) M rw B w (Lib.hid hA) (Lib.hid ⟨hlt h1, fun h => h5 (.inl h), fun h => h5 (.inr h)⟩) (Lib.hid h1) (Lib.hid h3)
    (Lib.hid fun hp _ => by
      obtain ⟨cs, T, fr, hcs⟩ := block_of_cell (h4 0 hp)
      exact ⟨⟨hlt hcs, fun h => h6 hp (.inl h), fun h => h6 hp (.inr h)⟩, cs, T, fr, hcs⟩) (Lib.hid h4) y0 m0 b0 w0 n₁ J Jx W
    (Lib.hid hW) (Lib.hid hJ) (Lib.hid hY) (Lib.hid h0)
end Go.Proofs.Ytcgkgobkchgdhaa
