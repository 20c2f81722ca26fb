/- The reference's Registers; top. -/
import Derived.Test.YtceadfkjknjaoaaDoorVeRegs
namespace Go.Proofs.YtceadfkjknjaoaaDoor
open Go.RowKit Co

attribute [local go_sem] Oper.semAt_some

def regsRL (l : List Six) : Int := l.foldl (fun m x => regsR x m) 0
theorem regsRL_take {l : List Six} {c : Nat} {x : Six} (h : l[c]? = some x) : regsRL (l.take (c + 1)) = regsR x (regsRL (l.take c)) := by
  unfold regsRL; rw [take_next h, List.foldl_append]; rfl
theorem regsRL_same : ∀ (l : List Six) (n : Int), (∀ x ∈ l, NoTop x) → l.foldl (fun m x => regs1 (rowR x.op) x m) n = l.foldl (fun m x => regsR x m) n
  | [], _, _ => rfl
  | x :: l, n, h => by
    rw [List.foldl_cons, List.foldl_cons, regs_same x n (h x (by simp))]
    exact regsRL_same l _ fun y hy => h y (by simp [hy])
def TopPost (l : List Six) (w : World) (e : Ending) (w' : World) : Prop := ∃ t : Bool, e = .returned (.bool t) ∧ (t = false → ∀ x ∈ l, NoTop x) ∧ w = w'
set_option maxHeartbeats 16000000 in
set_option maxRecDepth 100000 in
theorem top_any (l : List Six) (s : Value) (w : World) (hs : SixesAt w s l) (hl : l.length ≤ 9223372036854775807) :
    Calls Tryd.prog 7 #[s] w fun e w' => TopPost l w e w' := by
  obtain ⟨o, cap, b, off, rfl, _, _, e1, c1⟩ := hs
  obtain ⟨n, hn⟩ : ∃ n, n = l.length := ⟨_, rfl⟩
  rw [← hn] at e1 c1 hl ⊢
  have HN := Lib.hid hn
  have E1 := Lib.hid e1
  have C1 := Lib.hid c1
  have hnl : (n : Int) ≤ 9223372036854775807 := by omega
  clear hn e1 c1 hl
  go_enter Tryd.func7, Tryd.ntmps7
  go_wp2_with fail
  go_loopw [3] (fun i wr => ∃ (c : Nat), i = .int .i64 (c : Int) ∧ Hid (∀ x ∈ l.take c, NoTop x) ∧ c ≤ n ∧ Hid (w = wr)) (fun i _ => match i with | .int _ z => n - z.toNat | _ => 0)
  case atStart => exact ⟨0, rfl, Lib.hid (by simp), Nat.zero_le _, Lib.hid rfl⟩
  case round =>
    obtain ⟨c, rfl, hI, hc, hB⟩ := hrel
    rcases Nat.lt_or_ge c n with hlt | hge
    · have hcl : (c : Int) < (n : Int) := by omega
      obtain ⟨x, hx⟩ : ∃ x, l[c]? = some x := ⟨_, List.getElem?_eq_getElem (by rw [← HN.out]; exact hlt)⟩
      have hst := Lib.hid (take_next hx)
      obtain ⟨z0, z1, z2, z3, z4, z5⟩ := (show SixAt wr b (off + c * 6) x by rw [← hB.out]; exact C1.out c hlt x hx)
      have ix1 := ix_sixes (cap := cap) E1.out hlt (by omega)
      unfold Ix at ix1
      obtain ⟨op, d, a, b1, c4, v⟩ := x
      simp only at z0 z1 z2 z3 z4 z5
      clear hx z0 z5
      by_cases ha : a = 9223372036854775807
      · have q1 : (a == 9223372036854775807) = true := beq_iff_eq.2 ha
        clear ha
        go_wp2_with fail
        go_ret
        exact ⟨true, rfl, fun h => (by cases h), hB.out⟩
      · have q1 : (a == 9223372036854775807) = false := beq_false_of_ne ha
        have HA := Lib.hid ha
        clear ha
        by_cases hb : b1 = 9223372036854775807
        · have q2 : (b1 == 9223372036854775807) = true := beq_iff_eq.2 hb
          clear hb
          go_wp2_with fail
          go_ret
          exact ⟨true, rfl, fun h => (by cases h), hB.out⟩
        · have q2 : (b1 == 9223372036854775807) = false := beq_false_of_ne hb
          have HB := Lib.hid hb
          clear hb
          by_cases h4 : c4 = 9223372036854775807
          · have q3 : (c4 == 9223372036854775807) = true := beq_iff_eq.2 h4
            clear h4
            go_wp2_with fail
            go_ret
            exact ⟨true, rfl, fun h => (by cases h), hB.out⟩
          · have q3 : (c4 == 9223372036854775807) = false := beq_false_of_ne h4
            have H4 := Lib.hid h4
            clear h4
            by_cases hd : d = 9223372036854775807
            · have q4 : (d == 9223372036854775807) = true := beq_iff_eq.2 hd
              clear hd
              go_wp2_with fail
              go_ret
              exact ⟨true, rfl, fun h => (by cases h), hB.out⟩
            · have q4 : (d == 9223372036854775807) = false := beq_false_of_ne hd
              have HD := Lib.hid hd
              clear hd
              go_wp2_with fail
              refine ⟨⟨c + 1, by go_num, Lib.hid ?_, by omega, hB⟩, by simp; omega⟩
              rw [hst.out]
              intro x hx
              rcases List.mem_append.1 hx with h | h
              · exact hI.out x h
              · obtain rfl := List.mem_singleton.1 h
                exact ⟨HA.out, HB.out, H4.out, HD.out⟩
    · obtain rfl : c = n := by omega
      have hno : ¬ (c : Int) < (c : Int) := by omega
      go_wp2_with fail
      go_ret
      exact ⟨false, rfl, fun _ => by have := hI.out; rwa [HN.out, List.take_length] at this, hB.out⟩
set_option maxHeartbeats 16000000 in
set_option maxRecDepth 100000 in
theorem rregs_any (l : List Six) (s : Value) (w : World) (hs : SixesAt w s l) (hok : ∀ x ∈ l, x.ok) (ht : ∀ x ∈ l, NoTop x) (hl : l.length ≤ 9223372036854775807) :
    Calls Tryd.prog 9 #[s] w fun e w' => e = .returned (.int .i64 (regsRL l)) ∧ Below w.heap.size w w' := by
  obtain ⟨o, cap, b, off, rfl, _, _, e1, c1⟩ := hs
  obtain ⟨n, hn⟩ : ∃ n, n = l.length := ⟨_, rfl⟩
  rw [← hn] at e1 c1 hl ⊢
  have HN := Lib.hid hn
  have E1 := Lib.hid e1
  have C1 := Lib.hid c1
  have HK := Lib.hid hok
  have HT := Lib.hid ht
  have hnl : (n : Int) ≤ 9223372036854775807 := by omega
  clear hn e1 c1 hl hok ht
  go_enter Tryd.func9, Tryd.ntmps9
  go_wp2_with fail
  go_loopw [4, 3] (fun i t wr => ∃ (c : Nat), i = .int .i64 (c : Int) ∧ t = .int .i64 (regsRL (l.take c)) ∧ c ≤ n ∧ Hid (Below w.heap.size w wr)) (fun i _ _ => match i with | .int _ z => n - z.toNat | _ => 0)
  case atStart => exact ⟨0, rfl, rfl, Nat.zero_le _, Lib.hid (Below.refl _ _)⟩
  case round =>
    obtain ⟨c, rfl, rfl, hc, hB⟩ := hrel
    rcases Nat.lt_or_ge c n with hlt | hge
    · have hcl : (c : Int) < (n : Int) := by omega
      obtain ⟨x, hx⟩ : ∃ x, l[c]? = some x := ⟨_, List.getElem?_eq_getElem (by rw [← HN.out]; exact hlt)⟩
      have hst := Lib.hid (regsRL_take hx)
      have hxo := Lib.hid (HK.out x (List.mem_of_getElem? hx))
      have hxt := Lib.hid (HT.out x (List.mem_of_getElem? hx))
      obtain ⟨z0, z1, z2, z3, z4, z5⟩ := (C1.out c hlt x hx).below hB.out
      have ix1 := ix_sixes (cap := cap) E1.out hlt (by omega)
      unfold Ix at ix1
      obtain ⟨m, hm⟩ : ∃ m, m = regsRL (l.take c) := ⟨_, rfl⟩
      rw [← hm] at hst ⊢
      obtain ⟨op, d, a, b1, c4, v⟩ := x
      simp only at z0 z1 z2 z3 z4 z5
      clear hx hm
      have hba : Hid (∀ u, Below w.heap.size w (wr.alloc (.cells u 39))) := Lib.hid fun u => hB.out.alloc hB.out.size _
      have t1 : a ≤ 9223372036854775806 := by have := hxt.out.1; have := hxo.out.2.2.1.2; simp only at *; omega
      have t2 : b1 ≤ 9223372036854775806 := by have := hxt.out.2.1; have := hxo.out.2.2.2.1.2; simp only at *; omega
      have t3 : c4 ≤ 9223372036854775806 := by have := hxt.out.2.2.1; have := hxo.out.2.2.2.2.1.2; simp only at *; omega
      have t4 : d ≤ 9223372036854775806 := by have := hxt.out.2.2.2; have := hxo.out.2.1.2; simp only at *; omega
      have t5 : -9223372036854775808 ≤ a := hxo.out.2.2.1.1
      have t6 : -9223372036854775808 ≤ b1 := hxo.out.2.2.2.1.1
      have t7 : -9223372036854775808 ≤ c4 := hxo.out.2.2.2.2.1.1
      have t8 : -9223372036854775808 ≤ d := hxo.out.2.1.1
      go_wp2_with fail
      all_goals (refine ⟨⟨c + 1, by go_num, ?_, by omega, hba.out _⟩, by simp; omega⟩; rw [hst.out]; refine congrArg (Value.int .i64) ?_; first | (simp [regsR, asks, *]; done) | (simp [regsR, asks, *]; omega))
    · obtain rfl : c = n := by omega
      have hno : ¬ (c : Int) < (c : Int) := by omega
      have hSS : Hid (regsRL (l.take c) = regsRL l) := Lib.hid (by rw [HN.out, List.take_length])
      rw [hSS.out]
      clear hSS
      go_wp2_with fail
      go_ret
      exact ⟨rfl, hB.out⟩
end Go.Proofs.YtceadfkjknjaoaaDoor
