/- code.Same of two objects. -/
import Derived.Test.YtodblepbedhnnaaCoObEq
namespace Go.Proofs.Ytodblepbedhnnaa
open Go.RowKit Co

attribute [local go_sem] Oper.semAt_some

set_option maxHeartbeats 16000000 in
set_option maxRecDepth 100000 in
theorem seqOb_core (ao1 ao2 ao3 ao4 bo1 bo2 bo3 bo4 aq1 aq2 aq3 aq4 bq1 bq2 bq3 bq4 : Option Addr) (an1 ac1 am1 ad1 an2 ac2 am2 ad2 an3 ac3 am3 ad3 an4 ac4 am4 ad4 bn1 bc1 bm1 bd1 bn2 bc2 bm2 bd2 bn3 bc3 bm3 bd3 bn4 bc4 bm4 bd4 : Nat) (ap ar bp br : Int) (d0 d1 d2 d3 d4 d5 d6 d7 d8 d9 R : Bool) (w W0 : World) (hW : W0 = ((w.alloc (.cells #[.slice ao1 an1 ac1, .slice ao2 an2 ac2, .slice ao3 an3 ac3, .slice ao4 an4 ac4, .int .i64 ap, .int .i64 ar, .slice aq1 am1 ad1, .slice aq2 am2 ad2, .slice aq3 am3 ad3, .slice aq4 am4 ad4] 26)).alloc (.cells #[.slice bo1 bn1 bc1, .slice bo2 bn2 bc2, .slice bo3 bn3 bc3, .slice bo4 bn4 bc4, .int .i64 bp, .int .i64 br, .slice bq1 bm1 bd1, .slice bq2 bm2 bd2, .slice bq3 bm3 bd3, .slice bq4 bm4 bd4] 26)))
    (C0 : Hid (∀ W, Below W0.heap.size W0 W → Calls Try.prog 28 #[.slice ao1 an1 ac1, .slice bo1 bn1 bc1] W fun e w' => e = .returned (.bool d0) ∧ Below W0.heap.size W0 w'))
    (C1 : Hid (∀ W, Below W0.heap.size W0 W → Calls Try.prog 28 #[.slice ao2 an2 ac2, .slice bo2 bn2 bc2] W fun e w' => e = .returned (.bool d1) ∧ Below W0.heap.size W0 w'))
    (C2 : Hid (∀ W, Below W0.heap.size W0 W → Calls Try.prog 29 #[.slice ao3 an3 ac3, .slice bo3 bn3 bc3] W fun e w' => e = .returned (.bool d2) ∧ Below W0.heap.size W0 w'))
    (C3 : Hid (∀ W, Below W0.heap.size W0 W → Calls Try.prog 29 #[.slice ao4 an4 ac4, .slice bo4 bn4 bc4] W fun e w' => e = .returned (.bool d3) ∧ Below W0.heap.size W0 w'))
    (C6 : Hid (∀ W, Below W0.heap.size W0 W → Calls Try.prog 30 #[.slice aq1 am1 ad1, .slice bq1 bm1 bd1] W fun e w' => e = .returned (.bool d6) ∧ Below W0.heap.size W0 w'))
    (C7 : Hid (∀ W, Below W0.heap.size W0 W → Calls Try.prog 30 #[.slice aq2 am2 ad2, .slice bq2 bm2 bd2] W fun e w' => e = .returned (.bool d7) ∧ Below W0.heap.size W0 w'))
    (C8 : Hid (∀ W, Below W0.heap.size W0 W → Calls Try.prog 30 #[.slice aq3 am3 ad3, .slice bq3 bm3 bd3] W fun e w' => e = .returned (.bool d8) ∧ Below W0.heap.size W0 w'))
    (C9 : Hid (∀ W, Below W0.heap.size W0 W → Calls Try.prog 30 #[.slice aq4 am4 ad4, .slice bq4 bm4 bd4] W fun e w' => e = .returned (.bool d9) ∧ Below W0.heap.size W0 w'))
    (e4 : (ap == bp) = d4) (e5 : (ar == br) = d5) (HR : Hid (R = (d0 && (d1 && (d2 && (d3 && (d4 && (d5 && (d6 && (d7 && (d8 && (d9)))))))))))) :
    Calls Try.prog 13 #[.agg #[.slice ao1 an1 ac1, .slice ao2 an2 ac2, .slice ao3 an3 ac3, .slice ao4 an4 ac4, .int .i64 ap, .int .i64 ar, .slice aq1 am1 ad1, .slice aq2 am2 ad2, .slice aq3 am3 ad3, .slice aq4 am4 ad4], .agg #[.slice bo1 bn1 bc1, .slice bo2 bn2 bc2, .slice bo3 bn3 bc3, .slice bo4 bn4 bc4, .int .i64 bp, .int .i64 br, .slice bq1 bm1 bd1, .slice bq2 bm2 bd2, .slice bq3 bm3 bd3, .slice bq4 bm4 bd4]] w fun e w' => e = .returned (.bool R) ∧ Below w.heap.size w w' := by
  have hs1 : (w.alloc (.cells #[.slice ao1 an1 ac1, .slice ao2 an2 ac2, .slice ao3 an3 ac3, .slice ao4 an4 ac4, .int .i64 ap, .int .i64 ar, .slice aq1 am1 ad1, .slice aq2 am2 ad2, .slice aq3 am3 ad3, .slice aq4 am4 ad4] 26)).heap.size = w.heap.size + 1 := World.size_alloc _ _
  have hA : Hid (W0.heap[w.heap.size]? = some (.cells #[.slice ao1 an1 ac1, .slice ao2 an2 ac2, .slice ao3 an3 ac3, .slice ao4 an4 ac4, .int .i64 ap, .int .i64 ar, .slice aq1 am1 ad1, .slice aq2 am2 ad2, .slice aq3 am3 ad3, .slice aq4 am4 ad4] 26 (0, 0))) := Lib.hid (by rw [hW, Below.heap_alloc _ _ _ (by rw [hs1]; omega)]; exact heap_alloc_new w _)
  have hB : Hid (W0.heap[w.heap.size + 1]? = some (.cells #[.slice bo1 bn1 bc1, .slice bo2 bn2 bc2, .slice bo3 bn3 bc3, .slice bo4 bn4 bc4, .int .i64 bp, .int .i64 br, .slice bq1 bm1 bd1, .slice bq2 bm2 bd2, .slice bq3 bm3 bd3, .slice bq4 bm4 bd4] 26 (0, 0))) := Lib.hid (by have h := heap_alloc_new (w.alloc (.cells #[.slice ao1 an1 ac1, .slice ao2 an2 ac2, .slice ao3 an3 ac3, .slice ao4 an4 ac4, .int .i64 ap, .int .i64 ar, .slice aq1 am1 ad1, .slice aq2 am2 ad2, .slice aq3 am3 ad3, .slice aq4 am4 ad4] 26)) (.cells #[.slice bo1 bn1 bc1, .slice bo2 bn2 bc2, .slice bo3 bn3 bc3, .slice bo4 bn4 bc4, .int .i64 bp, .int .i64 br, .slice bq1 bm1 bd1, .slice bq2 bm2 bd2, .slice bq3 bm3 bd3, .slice bq4 bm4 bd4] 26); rw [hs1] at h; rw [hW]; exact h)
  have HB0 := Lib.hid (Below.refl W0.heap.size W0)
  have HW0 : Hid (Below w.heap.size w W0) := Lib.hid (by rw [hW]; exact ((Below.refl _ w).alloc (Nat.le_refl _) _).alloc (by rw [hs1]; omega) _)
  clear hs1
  subst hW
  cases d0 with
  | false =>
    go_enter Try.func13, Try.ntmps13
    go_wp2_with (first
        | (go_at_call 28; (with_reducible refine (C0.out _ HB0.out).mono ?_); rintro e z1 ⟨rfl, hb⟩; obtain ⟨-, ka1, -, -, -, -, -, -, -, -⟩ := box_cells hA.out hb; obtain ⟨-, kb1, -, -, -, -, -, -, -, -⟩ := box_cells hB.out hb; have HB1 := Lib.hid hb; clear hb)
        | (go_at_call 28; (with_reducible refine (C1.out _ HB1.out).mono ?_); rintro e z2 ⟨rfl, hb⟩; clear ka1 kb1; obtain ⟨-, -, ka2, -, -, -, -, -, -, -⟩ := box_cells hA.out hb; obtain ⟨-, -, kb2, -, -, -, -, -, -, -⟩ := box_cells hB.out hb; have HB2 := Lib.hid hb; clear hb)
        | (go_at_call 29; (with_reducible refine (C2.out _ HB2.out).mono ?_); rintro e z3 ⟨rfl, hb⟩; clear ka2 kb2; obtain ⟨-, -, -, ka3, -, -, -, -, -, -⟩ := box_cells hA.out hb; obtain ⟨-, -, -, kb3, -, -, -, -, -, -⟩ := box_cells hB.out hb; have HB3 := Lib.hid hb; clear hb)
        | (go_at_call 29; (with_reducible refine (C3.out _ HB3.out).mono ?_); rintro e z4 ⟨rfl, hb⟩; clear ka3 kb3; obtain ⟨-, -, -, -, ka4, ka5, ka6, -, -, -⟩ := box_cells hA.out hb; obtain ⟨-, -, -, -, kb4, kb5, kb6, -, -, -⟩ := box_cells hB.out hb; have HB4 := Lib.hid hb; clear hb)
        | (go_at_call 30; (with_reducible refine (C6.out _ HB4.out).mono ?_); rintro e z7 ⟨rfl, hb⟩; clear ka4 kb4 ka5 kb5 ka6 kb6; obtain ⟨-, -, -, -, -, -, -, ka7, -, -⟩ := box_cells hA.out hb; obtain ⟨-, -, -, -, -, -, -, kb7, -, -⟩ := box_cells hB.out hb; have HB7 := Lib.hid hb; clear hb)
        | (go_at_call 30; (with_reducible refine (C7.out _ HB7.out).mono ?_); rintro e z8 ⟨rfl, hb⟩; clear ka7 kb7; obtain ⟨-, -, -, -, -, -, -, -, ka8, -⟩ := box_cells hA.out hb; obtain ⟨-, -, -, -, -, -, -, -, kb8, -⟩ := box_cells hB.out hb; have HB8 := Lib.hid hb; clear hb)
        | (go_at_call 30; (with_reducible refine (C8.out _ HB8.out).mono ?_); rintro e z9 ⟨rfl, hb⟩; clear ka8 kb8; obtain ⟨-, -, -, -, -, -, -, -, -, ka9⟩ := box_cells hA.out hb; obtain ⟨-, -, -, -, -, -, -, -, -, kb9⟩ := box_cells hB.out hb; have HB9 := Lib.hid hb; clear hb)
        | (go_at_call 30; (with_reducible refine (C9.out _ HB9.out).mono ?_); rintro e z10 ⟨rfl, hb⟩; clear ka9 kb9; obtain ⟨-, -, -, -, -, -, -, -, -, -⟩ := box_cells hA.out hb; obtain ⟨-, -, -, -, -, -, -, -, -, -⟩ := box_cells hB.out hb; have HB10 := Lib.hid hb; clear hb))
    go_ret
    exact ⟨by rw [HR.out]; rfl, HW0.out.trans (HB1.out.mono HW0.out.size)⟩
  | true =>
    cases d1 with
    | false =>
      go_enter Try.func13, Try.ntmps13
      go_wp2_with (first
          | (go_at_call 28; (with_reducible refine (C0.out _ HB0.out).mono ?_); rintro e z1 ⟨rfl, hb⟩; obtain ⟨-, ka1, -, -, -, -, -, -, -, -⟩ := box_cells hA.out hb; obtain ⟨-, kb1, -, -, -, -, -, -, -, -⟩ := box_cells hB.out hb; have HB1 := Lib.hid hb; clear hb)
          | (go_at_call 28; (with_reducible refine (C1.out _ HB1.out).mono ?_); rintro e z2 ⟨rfl, hb⟩; clear ka1 kb1; obtain ⟨-, -, ka2, -, -, -, -, -, -, -⟩ := box_cells hA.out hb; obtain ⟨-, -, kb2, -, -, -, -, -, -, -⟩ := box_cells hB.out hb; have HB2 := Lib.hid hb; clear hb)
          | (go_at_call 29; (with_reducible refine (C2.out _ HB2.out).mono ?_); rintro e z3 ⟨rfl, hb⟩; clear ka2 kb2; obtain ⟨-, -, -, ka3, -, -, -, -, -, -⟩ := box_cells hA.out hb; obtain ⟨-, -, -, kb3, -, -, -, -, -, -⟩ := box_cells hB.out hb; have HB3 := Lib.hid hb; clear hb)
          | (go_at_call 29; (with_reducible refine (C3.out _ HB3.out).mono ?_); rintro e z4 ⟨rfl, hb⟩; clear ka3 kb3; obtain ⟨-, -, -, -, ka4, ka5, ka6, -, -, -⟩ := box_cells hA.out hb; obtain ⟨-, -, -, -, kb4, kb5, kb6, -, -, -⟩ := box_cells hB.out hb; have HB4 := Lib.hid hb; clear hb)
          | (go_at_call 30; (with_reducible refine (C6.out _ HB4.out).mono ?_); rintro e z7 ⟨rfl, hb⟩; clear ka4 kb4 ka5 kb5 ka6 kb6; obtain ⟨-, -, -, -, -, -, -, ka7, -, -⟩ := box_cells hA.out hb; obtain ⟨-, -, -, -, -, -, -, kb7, -, -⟩ := box_cells hB.out hb; have HB7 := Lib.hid hb; clear hb)
          | (go_at_call 30; (with_reducible refine (C7.out _ HB7.out).mono ?_); rintro e z8 ⟨rfl, hb⟩; clear ka7 kb7; obtain ⟨-, -, -, -, -, -, -, -, ka8, -⟩ := box_cells hA.out hb; obtain ⟨-, -, -, -, -, -, -, -, kb8, -⟩ := box_cells hB.out hb; have HB8 := Lib.hid hb; clear hb)
          | (go_at_call 30; (with_reducible refine (C8.out _ HB8.out).mono ?_); rintro e z9 ⟨rfl, hb⟩; clear ka8 kb8; obtain ⟨-, -, -, -, -, -, -, -, -, ka9⟩ := box_cells hA.out hb; obtain ⟨-, -, -, -, -, -, -, -, -, kb9⟩ := box_cells hB.out hb; have HB9 := Lib.hid hb; clear hb)
          | (go_at_call 30; (with_reducible refine (C9.out _ HB9.out).mono ?_); rintro e z10 ⟨rfl, hb⟩; clear ka9 kb9; obtain ⟨-, -, -, -, -, -, -, -, -, -⟩ := box_cells hA.out hb; obtain ⟨-, -, -, -, -, -, -, -, -, -⟩ := box_cells hB.out hb; have HB10 := Lib.hid hb; clear hb))
      go_ret
      exact ⟨by rw [HR.out]; rfl, HW0.out.trans (HB2.out.mono HW0.out.size)⟩
    | true =>
      cases d2 with
      | false =>
        go_enter Try.func13, Try.ntmps13
        go_wp2_with (first
            | (go_at_call 28; (with_reducible refine (C0.out _ HB0.out).mono ?_); rintro e z1 ⟨rfl, hb⟩; obtain ⟨-, ka1, -, -, -, -, -, -, -, -⟩ := box_cells hA.out hb; obtain ⟨-, kb1, -, -, -, -, -, -, -, -⟩ := box_cells hB.out hb; have HB1 := Lib.hid hb; clear hb)
            | (go_at_call 28; (with_reducible refine (C1.out _ HB1.out).mono ?_); rintro e z2 ⟨rfl, hb⟩; clear ka1 kb1; obtain ⟨-, -, ka2, -, -, -, -, -, -, -⟩ := box_cells hA.out hb; obtain ⟨-, -, kb2, -, -, -, -, -, -, -⟩ := box_cells hB.out hb; have HB2 := Lib.hid hb; clear hb)
            | (go_at_call 29; (with_reducible refine (C2.out _ HB2.out).mono ?_); rintro e z3 ⟨rfl, hb⟩; clear ka2 kb2; obtain ⟨-, -, -, ka3, -, -, -, -, -, -⟩ := box_cells hA.out hb; obtain ⟨-, -, -, kb3, -, -, -, -, -, -⟩ := box_cells hB.out hb; have HB3 := Lib.hid hb; clear hb)
            | (go_at_call 29; (with_reducible refine (C3.out _ HB3.out).mono ?_); rintro e z4 ⟨rfl, hb⟩; clear ka3 kb3; obtain ⟨-, -, -, -, ka4, ka5, ka6, -, -, -⟩ := box_cells hA.out hb; obtain ⟨-, -, -, -, kb4, kb5, kb6, -, -, -⟩ := box_cells hB.out hb; have HB4 := Lib.hid hb; clear hb)
            | (go_at_call 30; (with_reducible refine (C6.out _ HB4.out).mono ?_); rintro e z7 ⟨rfl, hb⟩; clear ka4 kb4 ka5 kb5 ka6 kb6; obtain ⟨-, -, -, -, -, -, -, ka7, -, -⟩ := box_cells hA.out hb; obtain ⟨-, -, -, -, -, -, -, kb7, -, -⟩ := box_cells hB.out hb; have HB7 := Lib.hid hb; clear hb)
            | (go_at_call 30; (with_reducible refine (C7.out _ HB7.out).mono ?_); rintro e z8 ⟨rfl, hb⟩; clear ka7 kb7; obtain ⟨-, -, -, -, -, -, -, -, ka8, -⟩ := box_cells hA.out hb; obtain ⟨-, -, -, -, -, -, -, -, kb8, -⟩ := box_cells hB.out hb; have HB8 := Lib.hid hb; clear hb)
            | (go_at_call 30; (with_reducible refine (C8.out _ HB8.out).mono ?_); rintro e z9 ⟨rfl, hb⟩; clear ka8 kb8; obtain ⟨-, -, -, -, -, -, -, -, -, ka9⟩ := box_cells hA.out hb; obtain ⟨-, -, -, -, -, -, -, -, -, kb9⟩ := box_cells hB.out hb; have HB9 := Lib.hid hb; clear hb)
            | (go_at_call 30; (with_reducible refine (C9.out _ HB9.out).mono ?_); rintro e z10 ⟨rfl, hb⟩; clear ka9 kb9; obtain ⟨-, -, -, -, -, -, -, -, -, -⟩ := box_cells hA.out hb; obtain ⟨-, -, -, -, -, -, -, -, -, -⟩ := box_cells hB.out hb; have HB10 := Lib.hid hb; clear hb))
        go_ret
        exact ⟨by rw [HR.out]; rfl, HW0.out.trans (HB3.out.mono HW0.out.size)⟩
      | true =>
        cases d3 with
        | false =>
          go_enter Try.func13, Try.ntmps13
          go_wp2_with (first
              | (go_at_call 28; (with_reducible refine (C0.out _ HB0.out).mono ?_); rintro e z1 ⟨rfl, hb⟩; obtain ⟨-, ka1, -, -, -, -, -, -, -, -⟩ := box_cells hA.out hb; obtain ⟨-, kb1, -, -, -, -, -, -, -, -⟩ := box_cells hB.out hb; have HB1 := Lib.hid hb; clear hb)
              | (go_at_call 28; (with_reducible refine (C1.out _ HB1.out).mono ?_); rintro e z2 ⟨rfl, hb⟩; clear ka1 kb1; obtain ⟨-, -, ka2, -, -, -, -, -, -, -⟩ := box_cells hA.out hb; obtain ⟨-, -, kb2, -, -, -, -, -, -, -⟩ := box_cells hB.out hb; have HB2 := Lib.hid hb; clear hb)
              | (go_at_call 29; (with_reducible refine (C2.out _ HB2.out).mono ?_); rintro e z3 ⟨rfl, hb⟩; clear ka2 kb2; obtain ⟨-, -, -, ka3, -, -, -, -, -, -⟩ := box_cells hA.out hb; obtain ⟨-, -, -, kb3, -, -, -, -, -, -⟩ := box_cells hB.out hb; have HB3 := Lib.hid hb; clear hb)
              | (go_at_call 29; (with_reducible refine (C3.out _ HB3.out).mono ?_); rintro e z4 ⟨rfl, hb⟩; clear ka3 kb3; obtain ⟨-, -, -, -, ka4, ka5, ka6, -, -, -⟩ := box_cells hA.out hb; obtain ⟨-, -, -, -, kb4, kb5, kb6, -, -, -⟩ := box_cells hB.out hb; have HB4 := Lib.hid hb; clear hb)
              | (go_at_call 30; (with_reducible refine (C6.out _ HB4.out).mono ?_); rintro e z7 ⟨rfl, hb⟩; clear ka4 kb4 ka5 kb5 ka6 kb6; obtain ⟨-, -, -, -, -, -, -, ka7, -, -⟩ := box_cells hA.out hb; obtain ⟨-, -, -, -, -, -, -, kb7, -, -⟩ := box_cells hB.out hb; have HB7 := Lib.hid hb; clear hb)
              | (go_at_call 30; (with_reducible refine (C7.out _ HB7.out).mono ?_); rintro e z8 ⟨rfl, hb⟩; clear ka7 kb7; obtain ⟨-, -, -, -, -, -, -, -, ka8, -⟩ := box_cells hA.out hb; obtain ⟨-, -, -, -, -, -, -, -, kb8, -⟩ := box_cells hB.out hb; have HB8 := Lib.hid hb; clear hb)
              | (go_at_call 30; (with_reducible refine (C8.out _ HB8.out).mono ?_); rintro e z9 ⟨rfl, hb⟩; clear ka8 kb8; obtain ⟨-, -, -, -, -, -, -, -, -, ka9⟩ := box_cells hA.out hb; obtain ⟨-, -, -, -, -, -, -, -, -, kb9⟩ := box_cells hB.out hb; have HB9 := Lib.hid hb; clear hb)
              | (go_at_call 30; (with_reducible refine (C9.out _ HB9.out).mono ?_); rintro e z10 ⟨rfl, hb⟩; clear ka9 kb9; obtain ⟨-, -, -, -, -, -, -, -, -, -⟩ := box_cells hA.out hb; obtain ⟨-, -, -, -, -, -, -, -, -, -⟩ := box_cells hB.out hb; have HB10 := Lib.hid hb; clear hb))
          go_ret
          exact ⟨by rw [HR.out]; rfl, HW0.out.trans (HB4.out.mono HW0.out.size)⟩
        | true =>
          cases d4 with
          | false =>
            go_enter Try.func13, Try.ntmps13
            go_wp2_with (first
                | (go_at_call 28; (with_reducible refine (C0.out _ HB0.out).mono ?_); rintro e z1 ⟨rfl, hb⟩; obtain ⟨-, ka1, -, -, -, -, -, -, -, -⟩ := box_cells hA.out hb; obtain ⟨-, kb1, -, -, -, -, -, -, -, -⟩ := box_cells hB.out hb; have HB1 := Lib.hid hb; clear hb)
                | (go_at_call 28; (with_reducible refine (C1.out _ HB1.out).mono ?_); rintro e z2 ⟨rfl, hb⟩; clear ka1 kb1; obtain ⟨-, -, ka2, -, -, -, -, -, -, -⟩ := box_cells hA.out hb; obtain ⟨-, -, kb2, -, -, -, -, -, -, -⟩ := box_cells hB.out hb; have HB2 := Lib.hid hb; clear hb)
                | (go_at_call 29; (with_reducible refine (C2.out _ HB2.out).mono ?_); rintro e z3 ⟨rfl, hb⟩; clear ka2 kb2; obtain ⟨-, -, -, ka3, -, -, -, -, -, -⟩ := box_cells hA.out hb; obtain ⟨-, -, -, kb3, -, -, -, -, -, -⟩ := box_cells hB.out hb; have HB3 := Lib.hid hb; clear hb)
                | (go_at_call 29; (with_reducible refine (C3.out _ HB3.out).mono ?_); rintro e z4 ⟨rfl, hb⟩; clear ka3 kb3; obtain ⟨-, -, -, -, ka4, ka5, ka6, -, -, -⟩ := box_cells hA.out hb; obtain ⟨-, -, -, -, kb4, kb5, kb6, -, -, -⟩ := box_cells hB.out hb; have HB4 := Lib.hid hb; clear hb)
                | (go_at_call 30; (with_reducible refine (C6.out _ HB4.out).mono ?_); rintro e z7 ⟨rfl, hb⟩; clear ka4 kb4 ka5 kb5 ka6 kb6; obtain ⟨-, -, -, -, -, -, -, ka7, -, -⟩ := box_cells hA.out hb; obtain ⟨-, -, -, -, -, -, -, kb7, -, -⟩ := box_cells hB.out hb; have HB7 := Lib.hid hb; clear hb)
                | (go_at_call 30; (with_reducible refine (C7.out _ HB7.out).mono ?_); rintro e z8 ⟨rfl, hb⟩; clear ka7 kb7; obtain ⟨-, -, -, -, -, -, -, -, ka8, -⟩ := box_cells hA.out hb; obtain ⟨-, -, -, -, -, -, -, -, kb8, -⟩ := box_cells hB.out hb; have HB8 := Lib.hid hb; clear hb)
                | (go_at_call 30; (with_reducible refine (C8.out _ HB8.out).mono ?_); rintro e z9 ⟨rfl, hb⟩; clear ka8 kb8; obtain ⟨-, -, -, -, -, -, -, -, -, ka9⟩ := box_cells hA.out hb; obtain ⟨-, -, -, -, -, -, -, -, -, kb9⟩ := box_cells hB.out hb; have HB9 := Lib.hid hb; clear hb)
                | (go_at_call 30; (with_reducible refine (C9.out _ HB9.out).mono ?_); rintro e z10 ⟨rfl, hb⟩; clear ka9 kb9; obtain ⟨-, -, -, -, -, -, -, -, -, -⟩ := box_cells hA.out hb; obtain ⟨-, -, -, -, -, -, -, -, -, -⟩ := box_cells hB.out hb; have HB10 := Lib.hid hb; clear hb))
            go_ret
            exact ⟨by rw [HR.out]; rfl, HW0.out.trans (HB4.out.mono HW0.out.size)⟩
          | true =>
            cases d5 with
            | false =>
              go_enter Try.func13, Try.ntmps13
              go_wp2_with (first
                  | (go_at_call 28; (with_reducible refine (C0.out _ HB0.out).mono ?_); rintro e z1 ⟨rfl, hb⟩; obtain ⟨-, ka1, -, -, -, -, -, -, -, -⟩ := box_cells hA.out hb; obtain ⟨-, kb1, -, -, -, -, -, -, -, -⟩ := box_cells hB.out hb; have HB1 := Lib.hid hb; clear hb)
                  | (go_at_call 28; (with_reducible refine (C1.out _ HB1.out).mono ?_); rintro e z2 ⟨rfl, hb⟩; clear ka1 kb1; obtain ⟨-, -, ka2, -, -, -, -, -, -, -⟩ := box_cells hA.out hb; obtain ⟨-, -, kb2, -, -, -, -, -, -, -⟩ := box_cells hB.out hb; have HB2 := Lib.hid hb; clear hb)
                  | (go_at_call 29; (with_reducible refine (C2.out _ HB2.out).mono ?_); rintro e z3 ⟨rfl, hb⟩; clear ka2 kb2; obtain ⟨-, -, -, ka3, -, -, -, -, -, -⟩ := box_cells hA.out hb; obtain ⟨-, -, -, kb3, -, -, -, -, -, -⟩ := box_cells hB.out hb; have HB3 := Lib.hid hb; clear hb)
                  | (go_at_call 29; (with_reducible refine (C3.out _ HB3.out).mono ?_); rintro e z4 ⟨rfl, hb⟩; clear ka3 kb3; obtain ⟨-, -, -, -, ka4, ka5, ka6, -, -, -⟩ := box_cells hA.out hb; obtain ⟨-, -, -, -, kb4, kb5, kb6, -, -, -⟩ := box_cells hB.out hb; have HB4 := Lib.hid hb; clear hb)
                  | (go_at_call 30; (with_reducible refine (C6.out _ HB4.out).mono ?_); rintro e z7 ⟨rfl, hb⟩; clear ka4 kb4 ka5 kb5 ka6 kb6; obtain ⟨-, -, -, -, -, -, -, ka7, -, -⟩ := box_cells hA.out hb; obtain ⟨-, -, -, -, -, -, -, kb7, -, -⟩ := box_cells hB.out hb; have HB7 := Lib.hid hb; clear hb)
                  | (go_at_call 30; (with_reducible refine (C7.out _ HB7.out).mono ?_); rintro e z8 ⟨rfl, hb⟩; clear ka7 kb7; obtain ⟨-, -, -, -, -, -, -, -, ka8, -⟩ := box_cells hA.out hb; obtain ⟨-, -, -, -, -, -, -, -, kb8, -⟩ := box_cells hB.out hb; have HB8 := Lib.hid hb; clear hb)
                  | (go_at_call 30; (with_reducible refine (C8.out _ HB8.out).mono ?_); rintro e z9 ⟨rfl, hb⟩; clear ka8 kb8; obtain ⟨-, -, -, -, -, -, -, -, -, ka9⟩ := box_cells hA.out hb; obtain ⟨-, -, -, -, -, -, -, -, -, kb9⟩ := box_cells hB.out hb; have HB9 := Lib.hid hb; clear hb)
                  | (go_at_call 30; (with_reducible refine (C9.out _ HB9.out).mono ?_); rintro e z10 ⟨rfl, hb⟩; clear ka9 kb9; obtain ⟨-, -, -, -, -, -, -, -, -, -⟩ := box_cells hA.out hb; obtain ⟨-, -, -, -, -, -, -, -, -, -⟩ := box_cells hB.out hb; have HB10 := Lib.hid hb; clear hb))
              go_ret
              exact ⟨by rw [HR.out]; rfl, HW0.out.trans (HB4.out.mono HW0.out.size)⟩
            | true =>
              cases d6 with
              | false =>
                go_enter Try.func13, Try.ntmps13
                go_wp2_with (first
                    | (go_at_call 28; (with_reducible refine (C0.out _ HB0.out).mono ?_); rintro e z1 ⟨rfl, hb⟩; obtain ⟨-, ka1, -, -, -, -, -, -, -, -⟩ := box_cells hA.out hb; obtain ⟨-, kb1, -, -, -, -, -, -, -, -⟩ := box_cells hB.out hb; have HB1 := Lib.hid hb; clear hb)
                    | (go_at_call 28; (with_reducible refine (C1.out _ HB1.out).mono ?_); rintro e z2 ⟨rfl, hb⟩; clear ka1 kb1; obtain ⟨-, -, ka2, -, -, -, -, -, -, -⟩ := box_cells hA.out hb; obtain ⟨-, -, kb2, -, -, -, -, -, -, -⟩ := box_cells hB.out hb; have HB2 := Lib.hid hb; clear hb)
                    | (go_at_call 29; (with_reducible refine (C2.out _ HB2.out).mono ?_); rintro e z3 ⟨rfl, hb⟩; clear ka2 kb2; obtain ⟨-, -, -, ka3, -, -, -, -, -, -⟩ := box_cells hA.out hb; obtain ⟨-, -, -, kb3, -, -, -, -, -, -⟩ := box_cells hB.out hb; have HB3 := Lib.hid hb; clear hb)
                    | (go_at_call 29; (with_reducible refine (C3.out _ HB3.out).mono ?_); rintro e z4 ⟨rfl, hb⟩; clear ka3 kb3; obtain ⟨-, -, -, -, ka4, ka5, ka6, -, -, -⟩ := box_cells hA.out hb; obtain ⟨-, -, -, -, kb4, kb5, kb6, -, -, -⟩ := box_cells hB.out hb; have HB4 := Lib.hid hb; clear hb)
                    | (go_at_call 30; (with_reducible refine (C6.out _ HB4.out).mono ?_); rintro e z7 ⟨rfl, hb⟩; clear ka4 kb4 ka5 kb5 ka6 kb6; obtain ⟨-, -, -, -, -, -, -, ka7, -, -⟩ := box_cells hA.out hb; obtain ⟨-, -, -, -, -, -, -, kb7, -, -⟩ := box_cells hB.out hb; have HB7 := Lib.hid hb; clear hb)
                    | (go_at_call 30; (with_reducible refine (C7.out _ HB7.out).mono ?_); rintro e z8 ⟨rfl, hb⟩; clear ka7 kb7; obtain ⟨-, -, -, -, -, -, -, -, ka8, -⟩ := box_cells hA.out hb; obtain ⟨-, -, -, -, -, -, -, -, kb8, -⟩ := box_cells hB.out hb; have HB8 := Lib.hid hb; clear hb)
                    | (go_at_call 30; (with_reducible refine (C8.out _ HB8.out).mono ?_); rintro e z9 ⟨rfl, hb⟩; clear ka8 kb8; obtain ⟨-, -, -, -, -, -, -, -, -, ka9⟩ := box_cells hA.out hb; obtain ⟨-, -, -, -, -, -, -, -, -, kb9⟩ := box_cells hB.out hb; have HB9 := Lib.hid hb; clear hb)
                    | (go_at_call 30; (with_reducible refine (C9.out _ HB9.out).mono ?_); rintro e z10 ⟨rfl, hb⟩; clear ka9 kb9; obtain ⟨-, -, -, -, -, -, -, -, -, -⟩ := box_cells hA.out hb; obtain ⟨-, -, -, -, -, -, -, -, -, -⟩ := box_cells hB.out hb; have HB10 := Lib.hid hb; clear hb))
                go_ret
                exact ⟨by rw [HR.out]; rfl, HW0.out.trans (HB7.out.mono HW0.out.size)⟩
              | true =>
                cases d7 with
                | false =>
                  go_enter Try.func13, Try.ntmps13
                  go_wp2_with (first
                      | (go_at_call 28; (with_reducible refine (C0.out _ HB0.out).mono ?_); rintro e z1 ⟨rfl, hb⟩; obtain ⟨-, ka1, -, -, -, -, -, -, -, -⟩ := box_cells hA.out hb; obtain ⟨-, kb1, -, -, -, -, -, -, -, -⟩ := box_cells hB.out hb; have HB1 := Lib.hid hb; clear hb)
                      | (go_at_call 28; (with_reducible refine (C1.out _ HB1.out).mono ?_); rintro e z2 ⟨rfl, hb⟩; clear ka1 kb1; obtain ⟨-, -, ka2, -, -, -, -, -, -, -⟩ := box_cells hA.out hb; obtain ⟨-, -, kb2, -, -, -, -, -, -, -⟩ := box_cells hB.out hb; have HB2 := Lib.hid hb; clear hb)
                      | (go_at_call 29; (with_reducible refine (C2.out _ HB2.out).mono ?_); rintro e z3 ⟨rfl, hb⟩; clear ka2 kb2; obtain ⟨-, -, -, ka3, -, -, -, -, -, -⟩ := box_cells hA.out hb; obtain ⟨-, -, -, kb3, -, -, -, -, -, -⟩ := box_cells hB.out hb; have HB3 := Lib.hid hb; clear hb)
                      | (go_at_call 29; (with_reducible refine (C3.out _ HB3.out).mono ?_); rintro e z4 ⟨rfl, hb⟩; clear ka3 kb3; obtain ⟨-, -, -, -, ka4, ka5, ka6, -, -, -⟩ := box_cells hA.out hb; obtain ⟨-, -, -, -, kb4, kb5, kb6, -, -, -⟩ := box_cells hB.out hb; have HB4 := Lib.hid hb; clear hb)
                      | (go_at_call 30; (with_reducible refine (C6.out _ HB4.out).mono ?_); rintro e z7 ⟨rfl, hb⟩; clear ka4 kb4 ka5 kb5 ka6 kb6; obtain ⟨-, -, -, -, -, -, -, ka7, -, -⟩ := box_cells hA.out hb; obtain ⟨-, -, -, -, -, -, -, kb7, -, -⟩ := box_cells hB.out hb; have HB7 := Lib.hid hb; clear hb)
                      | (go_at_call 30; (with_reducible refine (C7.out _ HB7.out).mono ?_); rintro e z8 ⟨rfl, hb⟩; clear ka7 kb7; obtain ⟨-, -, -, -, -, -, -, -, ka8, -⟩ := box_cells hA.out hb; obtain ⟨-, -, -, -, -, -, -, -, kb8, -⟩ := box_cells hB.out hb; have HB8 := Lib.hid hb; clear hb)
                      | (go_at_call 30; (with_reducible refine (C8.out _ HB8.out).mono ?_); rintro e z9 ⟨rfl, hb⟩; clear ka8 kb8; obtain ⟨-, -, -, -, -, -, -, -, -, ka9⟩ := box_cells hA.out hb; obtain ⟨-, -, -, -, -, -, -, -, -, kb9⟩ := box_cells hB.out hb; have HB9 := Lib.hid hb; clear hb)
                      | (go_at_call 30; (with_reducible refine (C9.out _ HB9.out).mono ?_); rintro e z10 ⟨rfl, hb⟩; clear ka9 kb9; obtain ⟨-, -, -, -, -, -, -, -, -, -⟩ := box_cells hA.out hb; obtain ⟨-, -, -, -, -, -, -, -, -, -⟩ := box_cells hB.out hb; have HB10 := Lib.hid hb; clear hb))
                  go_ret
                  exact ⟨by rw [HR.out]; rfl, HW0.out.trans (HB8.out.mono HW0.out.size)⟩
                | true =>
                  cases d8 with
                  | false =>
                    go_enter Try.func13, Try.ntmps13
                    go_wp2_with (first
                        | (go_at_call 28; (with_reducible refine (C0.out _ HB0.out).mono ?_); rintro e z1 ⟨rfl, hb⟩; obtain ⟨-, ka1, -, -, -, -, -, -, -, -⟩ := box_cells hA.out hb; obtain ⟨-, kb1, -, -, -, -, -, -, -, -⟩ := box_cells hB.out hb; have HB1 := Lib.hid hb; clear hb)
                        | (go_at_call 28; (with_reducible refine (C1.out _ HB1.out).mono ?_); rintro e z2 ⟨rfl, hb⟩; clear ka1 kb1; obtain ⟨-, -, ka2, -, -, -, -, -, -, -⟩ := box_cells hA.out hb; obtain ⟨-, -, kb2, -, -, -, -, -, -, -⟩ := box_cells hB.out hb; have HB2 := Lib.hid hb; clear hb)
                        | (go_at_call 29; (with_reducible refine (C2.out _ HB2.out).mono ?_); rintro e z3 ⟨rfl, hb⟩; clear ka2 kb2; obtain ⟨-, -, -, ka3, -, -, -, -, -, -⟩ := box_cells hA.out hb; obtain ⟨-, -, -, kb3, -, -, -, -, -, -⟩ := box_cells hB.out hb; have HB3 := Lib.hid hb; clear hb)
                        | (go_at_call 29; (with_reducible refine (C3.out _ HB3.out).mono ?_); rintro e z4 ⟨rfl, hb⟩; clear ka3 kb3; obtain ⟨-, -, -, -, ka4, ka5, ka6, -, -, -⟩ := box_cells hA.out hb; obtain ⟨-, -, -, -, kb4, kb5, kb6, -, -, -⟩ := box_cells hB.out hb; have HB4 := Lib.hid hb; clear hb)
                        | (go_at_call 30; (with_reducible refine (C6.out _ HB4.out).mono ?_); rintro e z7 ⟨rfl, hb⟩; clear ka4 kb4 ka5 kb5 ka6 kb6; obtain ⟨-, -, -, -, -, -, -, ka7, -, -⟩ := box_cells hA.out hb; obtain ⟨-, -, -, -, -, -, -, kb7, -, -⟩ := box_cells hB.out hb; have HB7 := Lib.hid hb; clear hb)
                        | (go_at_call 30; (with_reducible refine (C7.out _ HB7.out).mono ?_); rintro e z8 ⟨rfl, hb⟩; clear ka7 kb7; obtain ⟨-, -, -, -, -, -, -, -, ka8, -⟩ := box_cells hA.out hb; obtain ⟨-, -, -, -, -, -, -, -, kb8, -⟩ := box_cells hB.out hb; have HB8 := Lib.hid hb; clear hb)
                        | (go_at_call 30; (with_reducible refine (C8.out _ HB8.out).mono ?_); rintro e z9 ⟨rfl, hb⟩; clear ka8 kb8; obtain ⟨-, -, -, -, -, -, -, -, -, ka9⟩ := box_cells hA.out hb; obtain ⟨-, -, -, -, -, -, -, -, -, kb9⟩ := box_cells hB.out hb; have HB9 := Lib.hid hb; clear hb)
                        | (go_at_call 30; (with_reducible refine (C9.out _ HB9.out).mono ?_); rintro e z10 ⟨rfl, hb⟩; clear ka9 kb9; obtain ⟨-, -, -, -, -, -, -, -, -, -⟩ := box_cells hA.out hb; obtain ⟨-, -, -, -, -, -, -, -, -, -⟩ := box_cells hB.out hb; have HB10 := Lib.hid hb; clear hb))
                    go_ret
                    exact ⟨by rw [HR.out]; rfl, HW0.out.trans (HB9.out.mono HW0.out.size)⟩
                  | true =>
                    cases d9 with
                    | false =>
                      go_enter Try.func13, Try.ntmps13
                      go_wp2_with (first
                          | (go_at_call 28; (with_reducible refine (C0.out _ HB0.out).mono ?_); rintro e z1 ⟨rfl, hb⟩; obtain ⟨-, ka1, -, -, -, -, -, -, -, -⟩ := box_cells hA.out hb; obtain ⟨-, kb1, -, -, -, -, -, -, -, -⟩ := box_cells hB.out hb; have HB1 := Lib.hid hb; clear hb)
                          | (go_at_call 28; (with_reducible refine (C1.out _ HB1.out).mono ?_); rintro e z2 ⟨rfl, hb⟩; clear ka1 kb1; obtain ⟨-, -, ka2, -, -, -, -, -, -, -⟩ := box_cells hA.out hb; obtain ⟨-, -, kb2, -, -, -, -, -, -, -⟩ := box_cells hB.out hb; have HB2 := Lib.hid hb; clear hb)
                          | (go_at_call 29; (with_reducible refine (C2.out _ HB2.out).mono ?_); rintro e z3 ⟨rfl, hb⟩; clear ka2 kb2; obtain ⟨-, -, -, ka3, -, -, -, -, -, -⟩ := box_cells hA.out hb; obtain ⟨-, -, -, kb3, -, -, -, -, -, -⟩ := box_cells hB.out hb; have HB3 := Lib.hid hb; clear hb)
                          | (go_at_call 29; (with_reducible refine (C3.out _ HB3.out).mono ?_); rintro e z4 ⟨rfl, hb⟩; clear ka3 kb3; obtain ⟨-, -, -, -, ka4, ka5, ka6, -, -, -⟩ := box_cells hA.out hb; obtain ⟨-, -, -, -, kb4, kb5, kb6, -, -, -⟩ := box_cells hB.out hb; have HB4 := Lib.hid hb; clear hb)
                          | (go_at_call 30; (with_reducible refine (C6.out _ HB4.out).mono ?_); rintro e z7 ⟨rfl, hb⟩; clear ka4 kb4 ka5 kb5 ka6 kb6; obtain ⟨-, -, -, -, -, -, -, ka7, -, -⟩ := box_cells hA.out hb; obtain ⟨-, -, -, -, -, -, -, kb7, -, -⟩ := box_cells hB.out hb; have HB7 := Lib.hid hb; clear hb)
                          | (go_at_call 30; (with_reducible refine (C7.out _ HB7.out).mono ?_); rintro e z8 ⟨rfl, hb⟩; clear ka7 kb7; obtain ⟨-, -, -, -, -, -, -, -, ka8, -⟩ := box_cells hA.out hb; obtain ⟨-, -, -, -, -, -, -, -, kb8, -⟩ := box_cells hB.out hb; have HB8 := Lib.hid hb; clear hb)
                          | (go_at_call 30; (with_reducible refine (C8.out _ HB8.out).mono ?_); rintro e z9 ⟨rfl, hb⟩; clear ka8 kb8; obtain ⟨-, -, -, -, -, -, -, -, -, ka9⟩ := box_cells hA.out hb; obtain ⟨-, -, -, -, -, -, -, -, -, kb9⟩ := box_cells hB.out hb; have HB9 := Lib.hid hb; clear hb)
                          | (go_at_call 30; (with_reducible refine (C9.out _ HB9.out).mono ?_); rintro e z10 ⟨rfl, hb⟩; clear ka9 kb9; obtain ⟨-, -, -, -, -, -, -, -, -, -⟩ := box_cells hA.out hb; obtain ⟨-, -, -, -, -, -, -, -, -, -⟩ := box_cells hB.out hb; have HB10 := Lib.hid hb; clear hb))
                      go_ret
                      exact ⟨by rw [HR.out]; rfl, HW0.out.trans (HB10.out.mono HW0.out.size)⟩
                    | true =>
                      go_enter Try.func13, Try.ntmps13
                      go_wp2_with (first
                          | (go_at_call 28; (with_reducible refine (C0.out _ HB0.out).mono ?_); rintro e z1 ⟨rfl, hb⟩; obtain ⟨-, ka1, -, -, -, -, -, -, -, -⟩ := box_cells hA.out hb; obtain ⟨-, kb1, -, -, -, -, -, -, -, -⟩ := box_cells hB.out hb; have HB1 := Lib.hid hb; clear hb)
                          | (go_at_call 28; (with_reducible refine (C1.out _ HB1.out).mono ?_); rintro e z2 ⟨rfl, hb⟩; clear ka1 kb1; obtain ⟨-, -, ka2, -, -, -, -, -, -, -⟩ := box_cells hA.out hb; obtain ⟨-, -, kb2, -, -, -, -, -, -, -⟩ := box_cells hB.out hb; have HB2 := Lib.hid hb; clear hb)
                          | (go_at_call 29; (with_reducible refine (C2.out _ HB2.out).mono ?_); rintro e z3 ⟨rfl, hb⟩; clear ka2 kb2; obtain ⟨-, -, -, ka3, -, -, -, -, -, -⟩ := box_cells hA.out hb; obtain ⟨-, -, -, kb3, -, -, -, -, -, -⟩ := box_cells hB.out hb; have HB3 := Lib.hid hb; clear hb)
                          | (go_at_call 29; (with_reducible refine (C3.out _ HB3.out).mono ?_); rintro e z4 ⟨rfl, hb⟩; clear ka3 kb3; obtain ⟨-, -, -, -, ka4, ka5, ka6, -, -, -⟩ := box_cells hA.out hb; obtain ⟨-, -, -, -, kb4, kb5, kb6, -, -, -⟩ := box_cells hB.out hb; have HB4 := Lib.hid hb; clear hb)
                          | (go_at_call 30; (with_reducible refine (C6.out _ HB4.out).mono ?_); rintro e z7 ⟨rfl, hb⟩; clear ka4 kb4 ka5 kb5 ka6 kb6; obtain ⟨-, -, -, -, -, -, -, ka7, -, -⟩ := box_cells hA.out hb; obtain ⟨-, -, -, -, -, -, -, kb7, -, -⟩ := box_cells hB.out hb; have HB7 := Lib.hid hb; clear hb)
                          | (go_at_call 30; (with_reducible refine (C7.out _ HB7.out).mono ?_); rintro e z8 ⟨rfl, hb⟩; clear ka7 kb7; obtain ⟨-, -, -, -, -, -, -, -, ka8, -⟩ := box_cells hA.out hb; obtain ⟨-, -, -, -, -, -, -, -, kb8, -⟩ := box_cells hB.out hb; have HB8 := Lib.hid hb; clear hb)
                          | (go_at_call 30; (with_reducible refine (C8.out _ HB8.out).mono ?_); rintro e z9 ⟨rfl, hb⟩; clear ka8 kb8; obtain ⟨-, -, -, -, -, -, -, -, -, ka9⟩ := box_cells hA.out hb; obtain ⟨-, -, -, -, -, -, -, -, -, kb9⟩ := box_cells hB.out hb; have HB9 := Lib.hid hb; clear hb)
                          | (go_at_call 30; (with_reducible refine (C9.out _ HB9.out).mono ?_); rintro e z10 ⟨rfl, hb⟩; clear ka9 kb9; obtain ⟨-, -, -, -, -, -, -, -, -, -⟩ := box_cells hA.out hb; obtain ⟨-, -, -, -, -, -, -, -, -, -⟩ := box_cells hB.out hb; have HB10 := Lib.hid hb; clear hb))
                      go_ret
                      exact ⟨by rw [HR.out]; rfl, HW0.out.trans (HB10.out.mono HW0.out.size)⟩

theorem seqOb_any (a b : Ob) (s1 s2 s3 s4 t1 t2 t3 t4 u1 u2 u3 u4 v1 v2 v3 v4 : Value) (w : World) (hA : ObAt w s1 s2 s3 s4 t1 t2 t3 t4 a) (hB : ObAt w u1 u2 u3 u4 v1 v2 v3 v4 b) (ka : a.ok) (kb : b.ok) :
    Calls Try.prog 13 #[.agg (obCells s1 s2 s3 s4 a.cross a.flags t1 t2 t3 t4), .agg (obCells u1 u2 u3 u4 b.cross b.flags v1 v2 v3 v4)] w fun e w' => e = .returned (.bool (decide (a = b))) ∧ Below w.heap.size w w' := by
  obtain ⟨W0, hW⟩ : ∃ W, W = (w.alloc (.cells (obCells s1 s2 s3 s4 a.cross a.flags t1 t2 t3 t4) 26)).alloc (.cells (obCells u1 u2 u3 u4 b.cross b.flags v1 v2 v3 v4) 26) := ⟨_, rfl⟩
  have hb : Below w.heap.size w W0 := by
    rw [hW]
    refine ((Below.refl _ w).alloc (Nat.le_refl _) _).alloc ?_ _
    rw [World.size_alloc]
    omega
  have hA' := hA.below hb
  have hB' := hB.below hb
  obtain ⟨k1, k2, k3, k4, k5, k6, k7, k8, k9, k10⟩ := ka
  obtain ⟨l1, l2, l3, l4, l5, l6, l7, l8, l9, l10⟩ := kb
  have H0 := Lib.hid fun (W : World) (h : Below W0.heap.size W0 W) => seqInts_any a.inn b.inn s1 u1 W0 W hA'.inn hB'.inn h k1.1 l1.1
  have H1 := Lib.hid fun (W : World) (h : Below W0.heap.size W0 W) => seqInts_any a.out b.out s2 u2 W0 W hA'.out hB'.out h k2.1 l2.1
  have H2 := Lib.hid fun (W : World) (h : Below W0.heap.size W0 W) => seqNums_any a.state b.state s3 u3 W0 W hA'.state hB'.state h k3.1 l3.1
  have H3 := Lib.hid fun (W : World) (h : Below W0.heap.size W0 W) => seqNums_any a.mem b.mem s4 u4 W0 W hA'.mem hB'.mem h k4.1 l4.1
  have H6 := Lib.hid fun (W : World) (h : Below W0.heap.size W0 W) => seqSixes_any a.deriv b.deriv t1 v1 W0 W hA'.deriv hB'.deriv h k7.1 l7.1
  have H7 := Lib.hid fun (W : World) (h : Below W0.heap.size W0 W) => seqSixes_any a.zero b.zero t2 v2 W0 W hA'.zero hB'.zero h k8.1 l8.1
  have H8 := Lib.hid fun (W : World) (h : Below W0.heap.size W0 W) => seqSixes_any a.step b.step t3 v3 W0 W hA'.step hB'.step h k9.1 l9.1
  have H9 := Lib.hid fun (W : World) (h : Below W0.heap.size W0 W) => seqSixes_any a.at_ b.at_ t4 v4 W0 W hA'.at_ hB'.at_ h k10.1 l10.1
  have HR := Lib.hid (decOb_and a b)
  clear hA' hB' hb k1 k2 k3 k4 k5 k6 k7 k8 k9 k10 l1 l2 l3 l4 l5 l6 l7 l8 l9 l10
  obtain ⟨ao1, an1, ac1, ao2, an2, ac2, ao3, an3, ac3, ao4, an4, ac4, aq1, am1, ad1, aq2, am2, ad2, aq3, am3, ad3, aq4, am4, ad4, rfl, rfl, rfl, rfl, rfl, rfl, rfl, rfl⟩ := obAt_slices hA
  obtain ⟨bo1, bn1, bc1, bo2, bn2, bc2, bo3, bn3, bc3, bo4, bn4, bc4, bq1, bm1, bd1, bq2, bm2, bd2, bq3, bm3, bd3, bq4, bm4, bd4, rfl, rfl, rfl, rfl, rfl, rfl, rfl, rfl⟩ := obAt_slices hB
  unfold obCells at hW ⊢
  exact seqOb_core _ _ _ _ _ _ _ _ _ _ _ _ _ _ _ _ _ _ _ _ _ _ _ _ _ _ _ _ _ _ _ _ _ _ _ _ _ _ _ _ _ _ _ _ _ _ _ _ _ _ _ _ _ _ _ _ _ _ _ _ _ _ _ w W0 hW H0 H1 H2 H3 H6 H7 H8 H9 rfl rfl HR
end Go.Proofs.Ytodblepbedhnnaa
