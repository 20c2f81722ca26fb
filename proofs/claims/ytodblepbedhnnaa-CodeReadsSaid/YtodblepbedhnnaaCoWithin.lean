/- code.within: what stands between the signs and the sum. -/
import Derived.Test.YtodblepbedhnnaaCoReadA
import Derived.Test.YtodblepbedhnnaaCoArr
import Derived.Lib.QuietBelow
import Derived.Lib.ConvBytes
import Derived.BigQuiet
namespace Go.Proofs.Ytodblepbedhnnaa
open Go.RowKit Co Go.Sort Go.Lib Go.Deep

attribute [local go_sem] Oper.semAt_some

def str (l : List UInt8) : ByteArray := ⟨l.toArray⟩
theorem rd_box {w : World} {s : St} {v : Value} {l : List UInt8} (hv : BytesAt w v l) (hl : l.length ≤ 1000000) (hs : s = none ∨ s = some l) : Rd w w.heap.size s (w.alloc (.cells #[v, .bool (lostB s)] 48)) :=
  ⟨(Below.refl _ w).alloc (Nat.le_refl _) _, Nat.le_refl _, v, l, heap_alloc_new w _, hv, hl, hs⟩
theorem wpQuiet_arr {ops : Array Oper} {C : World → Prop} {Q : Act → Prop} {a : Act} {o : Oper} {rest : List Oper} {t e : TypeId} {x : Operand} {A : Option Addr} {n c N : Nat} (hw : Region.wanted o (yielded ops a.tmps) = true) (ho : o.op = .sliceToArrayPointer t x) (hx : a.eval x = .slice A n c)
    (ht : Try.prog.underlying t = some (.array N e)) (hn : N ≤ n) (h : wpQuiet Try.prog ops C Q rest (a.put o.dst (.pointer A))) : wpQuiet Try.prog ops C Q (o :: rest) a := by
  unfold wpQuiet
  rw [if_pos hw]
  refine ⟨.pointer A, fun w _ => ?_, h⟩
  have hno : ¬ (n < N) := by omega
  unfold Oper.quietAt
  simp [execOp, ho, hx, Instr.arrayAt, run_underlying ht, hno, Oper.quietUpon]
theorem four_iff {l : List UInt8} {E S : Nat} {γ : Nat → Nat} (hn : l.length = E + 4) (hS : S < 4294967296) (hγ : ∀ j, γ j = (l.getD (E + j) 0).toNat) :
    (((γ 0 : Int) == (S : Int) % 256) && ((γ 1 : Int) == (S : Int) / 256 % 256) && ((γ 2 : Int) == (S : Int) / 65536 % 256) && ((γ 3 : Int) == (S : Int) / 16777216)) = true ↔ l.drop E = four S := by
  obtain ⟨a0, a1, a2, a3, ha⟩ : ∃ a0 a1 a2 a3, l.drop E = [a0, a1, a2, a3] := by
    have h4 : (l.drop E).length = 4 := by rw [List.length_drop]; omega
    match l.drop E, h4 with
    | [a0, a1, a2, a3], _ => exact ⟨a0, a1, a2, a3, rfl⟩
  have g : ∀ j, l.getD (E + j) 0 = ([a0, a1, a2, a3] : List UInt8).getD j 0 := fun j => by
    rw [← ha, List.getD_eq_getElem?_getD, List.getD_eq_getElem?_getD, List.getElem?_drop]
  have g0 : γ 0 = a0.toNat := by rw [hγ, g]; rfl
  have g1 : γ 1 = a1.toNat := by rw [hγ, g]; rfl
  have g2 : γ 2 = a2.toNat := by rw [hγ, g]; rfl
  have g3 : γ 3 = a3.toNat := by rw [hγ, g]; rfl
  rw [ha, g0, g1, g2, g3]
  unfold four
  simp only [Bool.and_eq_true, beq_iff_eq, List.cons.injEq, and_true]
  have b : ∀ (c : UInt8) (m : Nat), m < 256 → (c = UInt8.ofNat m ↔ (c.toNat : Int) = (m : Int)) := fun c m hm => by
    constructor
    · rintro rfl; rw [byte_val hm]
    · intro h; apply UInt8.toNat_inj.1; rw [byte_val hm]; omega
  rw [b _ _ (by omega), b _ _ (by omega), b _ _ (by omega), b _ _ (by omega)]
  omega
theorem inside_some {l : List UInt8} {E : Nat} (hn : l.length = E + 4) (h8 : 4 ≤ E) (hs : l.take 4 = signs) (hd : l.drop E = four (sumN (l.take E))) : inside l = some ((l.take E).drop 4) := by
  unfold inside
  have e : l.length - 4 = E := by omega
  rw [e, if_pos ⟨by omega, hs, hd⟩]
theorem inside_none {l : List UInt8} {E : Nat} (hn : l.length = E + 4) (h : ¬ (l.take 4 = signs ∧ l.drop E = four (sumN (l.take E)))) : inside l = none := by
  unfold inside
  have e : l.length - 4 = E := by omega
  rw [e, if_neg (fun hh => h hh.2)]
theorem rd_new {w w4 : World} {s : St} {v : Value} {l : List UInt8} (hb : Below w.heap.size w w4) (hv : BytesAt w v l) (hl : l.length ≤ 1000000) (hs : s = none ∨ s = some l) : Rd w w4.heap.size s (w4.alloc (.cells #[v, .bool (lostB s)] 48)) :=
  ⟨hb.alloc hb.size _, hb.size, v, l, heap_alloc_new w4 _, hv, hl, hs⟩
theorem nil_bytes (w : World) : BytesAt w (.slice none 0 0) [] := slAt_none _ _ _ _ _ ⟨Nat.zero_le _, fun _ => rfl⟩ rfl
/-- the reader that comes back -/
def WithinPost (w : World) (s : St) (e : Ending) (w' : World) : Prop := ∃ R, e = .returned (.pointer (some ⟨R, 0, none⟩)) ∧ Rd w R s w'
set_option maxHeartbeats 16000000 in
set_option maxRecDepth 100000 in
theorem within_core (b off cap E : Nat) (l : List UInt8) (w : World) (hn : l.length = E + 4) (h8 : 4 ≤ E) (hl : E + 4 ≤ 1000000) (hc : E + 4 ≤ cap) (hm : cap ≤ maxLen) (hb : ∀ i, i < E + 4 → ∀ x, l[i]? = some x → w.cell? ⟨b, off + i, none⟩ = some (.int .u8 (x.toNat : Int))) :
    Calls Try.prog 18 #[.slice (some ⟨b, off, none⟩) (E + 4) cap] w fun e w' => WithinPost w (inside l) e w' := by
  have cv : ∀ pr : Regrown, (convert 29 9 (.slice (some ⟨b, off, none⟩) 4 cap)).run Try.prog (Go.Sort.grow (redrawn w pr.d) pr.os) = .ok (.string (str (l.take 4))) (Go.Sort.grow (redrawn w pr.d) pr.os) := fun pr => by
    have h := run_convert_bytes_back (P := Try.prog) (Go.Sort.grow (redrawn w pr.d) pr.os) 29 9 5 ⟨b, off, none⟩ cap (l.take 4) Try.underlying29 Try.underlying5 Try.underlying9 (fun j hj => by
      rw [Go.WideShapes.add_plain]
      refine cell_regrown (hb j (by rw [List.length_take] at hj; omega) _ ?_) pr.d pr.os
      rw [List.getElem_take]
      exact List.getElem?_eq_getElem _)
    rw [List.length_take, hn, Nat.min_eq_left (by omega)] at h
    exact h
  have hsl : BytesAt w (.slice (some ⟨b, off, none⟩) E cap) (l.take E) := by
    unfold BytesAt
    rw [List.length_take, hn, Nat.min_eq_left (by omega)]
    refine slAt_some (by omega) hm fun i hi x hx => ?_
    rw [Nat.mul_one]
    rw [List.getElem?_take, if_pos hi] at hx
    exact hb i (by omega) x hx
  obtain ⟨S, hS⟩ : ∃ S, S = sumN (l.take E) := ⟨_, rfl⟩
  have cs : ∀ pr : Regrown, Calls Try.prog 17 #[.slice (some ⟨b, off, none⟩) E cap] (Go.Sort.grow (redrawn w pr.d) pr.os) fun e w'' => e = .returned (.agg #[.int .u8 ((S : Int) % 256), .int .u8 ((S : Int) / 256 % 256), .int .u8 ((S : Int) / 65536 % 256), .int .u8 ((S : Int) / 16777216)]) ∧ ∃ p : Regrown, w'' = Go.Sort.grow (redrawn w p.d) p.os := fun pr => Calls.regrown_of (by
    rw [hS]
    exact sum_any (l.take E) _ _ (hsl.below (below_regrown _ _ _)) (by rw [List.length_take]; omega))
  obtain ⟨γ, hγ⟩ : ∃ γ : Nat → Nat, ∀ j, γ j = (l.getD (E + j) 0).toNat := ⟨_, fun _ => rfl⟩
  have dj : ∀ j, j < 4 → ∀ pr : Regrown, (Go.Sort.grow (redrawn w pr.d) pr.os).cell? ⟨b, off + E + j, none⟩ = some (.int .u8 (γ j : Int)) := fun j hj pr => by
    have hx : l[E + j]? = some (l.getD (E + j) 0) := by rw [List.getD_eq_getElem?_getD, List.getElem?_eq_getElem (by omega)]; rfl
    rw [hγ, Nat.add_assoc]
    exact cell_regrown (hb (E + j) (by omega) _ hx) pr.d pr.os
  have d0 : ∀ pr : Regrown, (Go.Sort.grow (redrawn w pr.d) pr.os).cell? ⟨b, off + E, none⟩ = some (.int .u8 (γ 0 : Int)) := fun pr => dj 0 (by omega) pr
  have d1 := dj 1 (by omega)
  have d2 := dj 2 (by omega)
  have d3 := dj 3 (by omega)
  have CS := Lib.hid cs
  have HSL := Lib.hid hsl
  have HS := Lib.hid hS
  have HG := Lib.hid hγ
  have HN := Lib.hid hn
  have HB := Lib.hid hb
  have q0 : decide ((E : Int) < 4) = false := decide_eq_false (by omega)
  have q1 : (E : Int) ≤ 1000000 := by omega
  have q2 : (4 : Int) ≤ (E : Int) := by omega
  have q3 : (E : Int) + 4 ≤ (cap : Int) := by omega
  clear dj cs hsl hS hγ hn hb
  go_enter Try.func18, Try.ntmps18
  go_wp2_with fail
  by_cases hsg : l.take 4 = signs
  · have sg : ((str (l.take 4)).toList == [65, 83, 84, 49]) = true := by rw [ByteArray.toList_eq, hsg]; rfl
    have HSG := Lib.hid hsg
    clear hsg
    refine wp_region_quiet_below (by kernel_rfl) (by kernel_rfl) ?_
    repeat (go_big_quiet_step (fail))
    refine wpQuiet_arr (by rfl) rfl rfl Try.underlying42 (by omega) ?_
    go_simp
    repeat (go_big_quiet_step (first | with_reducible exact CS.out _))
    have hlt : S < 4294967296 := by rw [HS.out]; exact sumN_lt _
    have FI := four_iff HN.out hlt HG.out
    by_cases hdr : l.drop E = four S
    · have hr := congrArg (fun b => !b) (FI.2 hdr)
      simp only [Bool.not_true] at hr
      have HDR := Lib.hid hdr
      clear FI hdr hlt
      refine wpQuiet_neq4 (by rfl) rfl rfl rfl hr ?_
      clear hr
      go_simp
      repeat (go_big_quiet_step (fail))
      refine wpQuiet_nil ?_
      intro pr
      have HB4 : Hid (Below w.heap.size w (Go.Sort.grow (redrawn w pr.d) pr.os)) := Lib.hid (below_regrown _ _ _)
      clear CS d0 d1 d2 d3 cv
      generalize Go.Sort.grow (redrawn w pr.d) pr.os = w4 at HB4 ⊢
      go_wp2_with fail
      go_ret
      have hmid : BytesAt w (.slice (some ⟨b, off + 4, none⟩) (E - 4) (cap - 4)) ((l.take E).drop 4) := by
        have hl2 : ((l.take E).drop 4).length = E - 4 := by rw [List.length_drop, List.length_take, HN.out]; omega
        unfold BytesAt
        rw [hl2]
        refine slAt_some (by omega) (by omega) fun i hi x hx => ?_
        rw [Nat.mul_one]
        rw [List.getElem?_drop, List.getElem?_take, if_pos (by omega)] at hx
        have := HB.out (4 + i) (by omega) x hx
        rwa [← Nat.add_assoc] at this
      rw [inside_some HN.out h8 HSG.out (by rw [← HS.out]; exact HDR.out)]
      exact ⟨_, rfl, rd_new HB4.out hmid (by rw [List.length_drop, List.length_take]; omega) (.inr rfl)⟩
    · have hf : (((γ 0 : Int) == (S : Int) % 256) && ((γ 1 : Int) == (S : Int) / 256 % 256) && ((γ 2 : Int) == (S : Int) / 65536 % 256) && ((γ 3 : Int) == (S : Int) / 16777216)) = false := by
        cases hx : (((γ 0 : Int) == (S : Int) % 256) && ((γ 1 : Int) == (S : Int) / 256 % 256) && ((γ 2 : Int) == (S : Int) / 65536 % 256) && ((γ 3 : Int) == (S : Int) / 16777216)) with
        | true => exact absurd (FI.1 hx) hdr
        | false => rfl
      have hr := congrArg (fun b => !b) hf
      simp only [Bool.not_false] at hr
      have HDR := Lib.hid hdr
      clear FI hdr hlt hf
      refine wpQuiet_neq4 (by rfl) rfl rfl rfl hr ?_
      clear hr
      go_simp
      repeat (go_big_quiet_step (fail))
      refine wpQuiet_nil ?_
      intro pr
      have HB4 : Hid (Below w.heap.size w (Go.Sort.grow (redrawn w pr.d) pr.os)) := Lib.hid (below_regrown _ _ _)
      clear CS d0 d1 d2 d3 cv
      generalize Go.Sort.grow (redrawn w pr.d) pr.os = w4 at HB4 ⊢
      go_wp2_with fail
      go_ret
      rw [inside_none HN.out (fun hh => HDR.out (by rw [HS.out]; exact hh.2))]
      exact ⟨_, rfl, rd_new HB4.out (nil_bytes w) (by simp) (.inl rfl)⟩
  · have sg : ((str (l.take 4)).toList == [65, 83, 84, 49]) = false := by
      rw [ByteArray.toList_eq]
      cases hx : ((str (l.take 4)).data.toList == [65, 83, 84, 49]) with
      | true => exact absurd (eq_of_beq hx) hsg
      | false => rfl
    have HSG := Lib.hid hsg
    clear hsg
    refine wp_region_quiet_below (by kernel_rfl) (by kernel_rfl) ?_
    repeat (go_big_quiet_step (fail))
    refine wpQuiet_nil ?_
    intro w4 hw4
    have HB4 : Hid (Below w.heap.size w w4) := Lib.hid (by obtain ⟨pr, rfl⟩ := hw4; exact below_regrown _ _ _)
    clear hw4 CS d0 d1 d2 d3 cv
    go_wp2_with fail
    go_ret
    rw [inside_none HN.out (fun hh => HSG.out hh.1)]
    exact ⟨_, rfl, rd_new HB4.out (nil_bytes w) (by simp) (.inl rfl)⟩

/-- too few bytes -/
theorem within_few (o : Option Addr) (n cap : Nat) (l : List UInt8) (w : World) (hn : l.length = n) (h8 : n < 8) :
    Calls Try.prog 18 #[.slice o n cap] w fun e w' => WithinPost w (inside l) e w' := by
  have q0 : decide (((n : Int) - 4) < 4) = true := decide_eq_true (by omega)
  have q1 : (n : Int) ≤ 7 := by omega
  have HIN : Hid (inside l = none) := Lib.hid (by unfold inside; rw [if_neg (by omega)])
  clear hn h8
  go_enter Try.func18, Try.ntmps18
  go_wp2_with fail
  refine wp_region_quiet_below (by kernel_rfl) (by kernel_rfl) ?_
  repeat (go_big_quiet_step (fail))
  refine wpQuiet_nil ?_
  intro w4 hw4
  have HB4 : Hid (Below w.heap.size w w4) := Lib.hid (by obtain ⟨pr, rfl⟩ := hw4; exact below_regrown _ _ _)
  clear hw4
  go_wp2_with fail
  go_ret
  rw [HIN.out]
  exact ⟨_, rfl, rd_new HB4.out (nil_bytes w) (by simp) (.inl rfl)⟩
theorem within_any (v : Value) (l : List UInt8) (w : World) (hv : BytesAt w v l) (hl : l.length ≤ 1000000) :
    Calls Try.prog 18 #[v] w fun e w' => WithinPost w (inside l) e w' := by
  obtain ⟨o, cap, b, off, rfl, h1, h2, h3, h4⟩ := hv
  rcases Nat.lt_or_ge l.length 8 with h8 | h8
  · exact within_few o _ cap l w rfl h8
  · obtain ⟨E, hE⟩ : ∃ E, l.length = E + 4 := ⟨l.length - 4, by omega⟩
    have ho := h3 (by omega)
    subst ho
    rw [hE] at hl h1 h4 ⊢
    exact within_core b off cap E l w hE (by omega) hl h1 h2.1 fun i hi x hx => by
      have := h4 i hi x hx
      rwa [Nat.mul_one] at this
end Go.Proofs.Ytodblepbedhnnaa
