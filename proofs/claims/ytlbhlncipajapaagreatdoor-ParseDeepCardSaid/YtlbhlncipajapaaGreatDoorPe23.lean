/- Joined: CdWant, CdEnd, CdEnd2, CdRead1. -/
import Derived.Test.YtlbhlncipajapaaGreatDoorPe17
import Derived.Test.YtlbhlncipajapaaGreatDoorPe22
import Derived.Defers
import Derived.Recover
namespace Go.Proofs.YtlbhlncipajapaaGreatDoor
open Go.RowKit Lx
set_option linter.unusedVariables false

def wantsS (ts : List Tok) (L : List (List UInt8)) (σ : RS) : RS := L.foldl (fun x s => wantS ts s x) σ
theorem stays_wants (ts : List Tok) (L : List (List UInt8)) : ∀ σ : RS, Stays σ (wantsS ts L σ) := by
  induction L with
  | nil => exact fun σ => Stays.refl σ
  | cons s L ih => exact fun σ => (stays_want ts s σ).trans (ih (wantS ts s σ))
theorem wantsS_drop (ts : List Tok) (L : List (List UInt8)) (σ : RS) {j : Nat} {s : List UInt8} (h : L[j]? = some s) : wantsS ts (L.take (j + 1)) σ = wantS ts s (wantsS ts (L.take j) σ) := by
  unfold wantsS
  rw [List.take_add_one, h, List.foldl_append]; rfl
theorem stays_rest (ts : List Tok) (L : List (List UInt8)) (σ : RS) (j : Nat) : Stays (wantsS ts (L.take j) σ) (wantsS ts L σ) := by
  have e : wantsS ts L σ = wantsS ts (L.drop j) (wantsS ts (L.take j) σ) := by
    unfold wantsS
    rw [← List.foldl_append, List.take_append_drop]
  rw [e]
  exact stays_wants ts _ _
theorem noex_str {cs : Array Value} : NoEx (.cells cs 9 (0, 0)) := fun cs' h => by cases h
theorem strs_of {W : World} {k : Nat} {L : List (List UInt8)} (h : W.heap[k]? = some (.cells (L.map fun s => Value.string (str s)).toArray 9 (0, 0))) : StrsIn W k L := fun j s hj => by
  simp [World.cell?, h, hj]
set_option maxHeartbeats 8000000 in
theorem wants_any (b g cap : Nat) (dv : Value) (ts : List Tok) (xb : Nat → Prop) (σ : RS) (k n : Nat) (L : List (List UInt8)) (W : World) (h : Hid (Cd W b g cap dv ts xb σ)) (hc : σ.code = 0) (hL : ∀ s ∈ L, s ∈ sgL) (hn : n = L.length) (hn9 : (n : Int) ≤ 9) (hkb : k ≠ b) (hk : Hid (W.heap[k]? = some (.cells (L.map fun s => Value.string (str s)).toArray 9 (0, 0)))) :
    Calls Tryz.prog 67 #[.pointer (some ⟨b, 0, none⟩), .slice (some ⟨k, 0, none⟩) n n] W fun r Y => CdRet b g cap dv ts xb W (.tuple #[]) (wantsS ts L σ) r Y := by
  have HN := Lib.hid hn
  have HLL := Lib.hid hL
  have HKB := Lib.hid hkb
  have HC := Lib.hid hc
  clear hn hL hkb hc
  go_enter Tryz.func67, Tryz.ntmps67
  go_wp2_with fail
  go_loopw [8] (fun v wr => ∃ j : Nat, v = .int .i64 (j : Int) ∧ (j : Int) ≤ (n : Int) ∧ Hid (Cd wr b g cap dv ts xb (wantsS ts (L.take j) σ)) ∧ Hid ((wantsS ts (L.take j) σ).code = 0) ∧ Hid (RX b xb W wr)) (fun v _ => n - litLen v)
  case atStart => exact ⟨0, rfl, by omega, h, HC, Lib.hid (RX.refl _ _ _)⟩
  case round =>
    obtain ⟨j, rfl, hj, HR, HC', HK⟩ := hrel
    have hkw := strs_of (HK.out.keep k _ hk.out HKB.out noex_str)
    by_cases hjn : (j : Int) < (n : Int)
    · obtain ⟨s, hs⟩ : ∃ s, L[j]? = some s := ⟨L[j]'(by have := HN.out; omega), List.getElem?_eq_getElem _⟩
      have cj := hkw j s hs
      have hsg := HLL.out s (List.mem_of_getElem? hs)
      have HW := Lib.hid (wantsS_drop ts L σ hs)
      have HST := Lib.hid (stays_rest ts L σ (j + 1))
      obtain ⟨x, hx⟩ : ∃ x, x = wantsS ts (L.take j) σ := ⟨_, rfl⟩
      rw [← hx] at HR HC' HW
      have TK := Lib.hid (takes_any b g cap dv ts xb x s wr HR HC'.out hsg)
      clear hkw hs hsg hx
      cases hi : isS ts s x with
      | true =>
        have e : tookS ts s x = wantS ts s x := by unfold tookS wantS; rw [hi]; rfl
        have e2 : (wantS ts s x).code = 0 := by unfold wantS; rw [if_pos hi]; exact HC'.out
        have E := Lib.hid (show _ ∧ _ from ⟨e, e2⟩)
        have TK2 : Hid (Calls Tryz.prog 62 #[.pointer (some ⟨b, 0, none⟩), .string (str s)] wr fun r Y => r = .returned (.bool true) ∧ Hid (Cd Y b g cap dv ts xb (wantS ts s x)) ∧ Hid (RX b xb wr Y)) := Lib.hid (TK.out.mono fun r Y hh => by unfold TakesRet at hh; rw [hi, e] at hh; exact hh)
        clear e e2 hi TK
        go_wp2_with (go_at_call 62; (with_reducible refine TK2.out.mono ?_); rintro e w2 ⟨rfl, hr, hk2⟩)
        exact ⟨⟨j + 1, by simp, by omega, by rw [HW.out]; exact hr, Lib.hid (by rw [HW.out]; exact E.out.2), Lib.hid (HK.out.trans hk2.out)⟩, by simp [litLen]; omega⟩
      | false =>
        have e : tookS ts s x = x := by unfold tookS; rw [hi]; rfl
        have e2 : wantS ts s x = failS ts 2 x := by unfold wantS; rw [hi]; rfl
        have e3 : failS ts 2 x = { x with code := 2, pos := ((tokL ts x.at_).at_ : Int) } := by unfold failS; rw [if_pos HC'.out]
        have E := Lib.hid (e2.trans e3)
        have TK2 : Hid (Calls Tryz.prog 62 #[.pointer (some ⟨b, 0, none⟩), .string (str s)] wr fun r Y => r = .returned (.bool false) ∧ Hid (Cd Y b g cap dv ts xb x) ∧ Hid (RX b xb wr Y)) := Lib.hid (TK.out.mono fun r Y hh => by unfold TakesRet at hh; rw [hi, e] at hh; exact hh)
        clear e e2 e3 hi TK
        go_wp2_with (first
          | (go_at_call 62; (with_reducible refine TK2.out.mono ?_); rintro e w2 ⟨rfl, hr, hk2⟩; have RF := Lib.hid (refusal_any b g cap dv ts xb x 2 w2 hr))
          | (go_at_call 60; (with_reducible refine RF.out.mono ?_); rintro e w3 ⟨rfl, hb3⟩))
        have hfin : CdRet b g cap dv ts xb W (.tuple #[]) (wantsS ts L σ) (.panicked [{ v := refusalV 2 ((tokL ts x.at_).at_ : Int), recovered := false }]) w3 := by
          have hb : CdBad b xb W (wantS ts s x).code (wantS ts s x).pos (.panicked [{ v := refusalV 2 ((tokL ts x.at_).at_ : Int), recovered := false }]) w3 := by
            rw [E.out]; exact ⟨rfl, Lib.hid ((HK.out.trans hk2.out).trans (RX.of_below hb3 (Nat.le_of_lt hr.out.size) hr.out.xlt))⟩
          have hs := HST.out
          rw [HW.out] at hs
          exact hb.ret (by rw [E.out]; exact (by decide : (2 : Int) ≠ 0)) hs
        exact ⟨rfl, hfin⟩
    · have q : decide ((j : Int) < (n : Int)) = false := decide_eq_false hjn
      have e : L.take j = L := List.take_of_length_le (by have := HN.out; omega)
      rw [e] at HR HC'
      go_wp2_with fail
      go_end0
      exact ⟨HK.out, .inl ⟨HC'.out, rfl, HR.out⟩⟩
/-- wants of one text, or two, in a new block -/
theorem wants_one (b g cap : Nat) (dv : Value) (ts : List Tok) (xb : Nat → Prop) (σ : RS) (s : List UInt8) (W : World) (h : Hid (Cd W b g cap dv ts xb σ)) (hc : σ.code = 0) (hs : s ∈ sgL) :
    Calls Tryz.prog 67 #[.pointer (some ⟨b, 0, none⟩), .slice (some ⟨W.heap.size, 0, none⟩) 1 1] (W.alloc (.cells #[.string (str s)] 9)) fun r Y => CdRet b g cap dv ts xb W (.tuple #[]) (wantS ts s σ) r Y := by
  have hb1 : Below W.heap.size W (W.alloc (.cells #[.string (str s)] 9)) := (Below.refl _ _).alloc (Nat.le_refl _) _
  have hbs := h.out.size
  refine (wants_any b g cap dv ts xb σ W.heap.size 1 [s] (W.alloc (.cells #[.string (str s)] 9)) (Lib.hid (h.out.below hb1)) hc (by simpa using hs) rfl (by decide) (by omega) (Lib.hid (heap_alloc_new W _))).mono fun r Y hh => ?_
  exact ⟨(RX.of_below hb1 (Nat.le_of_lt hbs) h.out.xlt).trans hh.1, hh.2⟩
theorem wants_two (b g cap : Nat) (dv : Value) (ts : List Tok) (xb : Nat → Prop) (σ : RS) (s t : List UInt8) (W : World) (h : Hid (Cd W b g cap dv ts xb σ)) (hc : σ.code = 0) (hs : s ∈ sgL) (ht : t ∈ sgL) :
    Calls Tryz.prog 67 #[.pointer (some ⟨b, 0, none⟩), .slice (some ⟨W.heap.size, 0, none⟩) 2 2] (W.alloc (.cells #[.string (str s), .string (str t)] 9)) fun r Y => CdRet b g cap dv ts xb W (.tuple #[]) (wantS ts t (wantS ts s σ)) r Y := by
  have hb1 : Below W.heap.size W (W.alloc (.cells #[.string (str s), .string (str t)] 9)) := (Below.refl _ _).alloc (Nat.le_refl _) _
  have hbs := h.out.size
  refine (wants_any b g cap dv ts xb σ W.heap.size 2 [s, t] (W.alloc (.cells #[.string (str s), .string (str t)] 9)) (Lib.hid (h.out.below hb1)) hc (fun x hx => by rcases List.mem_cons.1 hx with rfl | hx
                                                                                                                                                                                     <;> first | exact hs | (obtain rfl := List.mem_singleton.1 hx; exact ht)) rfl (by decide) (by omega) (Lib.hid (heap_alloc_new W _))).mono fun r Y hh => ?_
  exact ⟨(RX.of_below hb1 (Nat.le_of_lt hbs) h.out.xlt).trans hh.1, hh.2⟩
/-- a token of a kind is taken, or there is none -/
def WantRet (b g cap : Nat) (dv : Value) (ts : List Tok) (xb : Nat → Prop) (W : World) (σ : RS) (r : Ending) (Y : World) : Prop := CdRet b g cap dv ts xb W (tokV (tokL ts σ.at_)) (nameS ts σ) r Y
set_option maxHeartbeats 4000000 in
theorem want_name (b g cap : Nat) (dv : Value) (ts : List Tok) (xb : Nat → Prop) (σ : RS) (W : World) (h : Hid (Cd W b g cap dv ts xb σ)) (hc : σ.code = 0) :
    Calls Tryz.prog 33 #[.pointer (some ⟨b, 0, none⟩), .int .i64 1] W fun r Y => WantRet b g cap dv ts xb W σ r Y := by
  unfold WantRet
  obtain ⟨W1, hW1⟩ : ∃ W1, W1 = W.alloc (.cells #[.int .i64 0, .string ⟨#[]⟩, .int .i64 0, .int .i64 0] 43) := ⟨_, rfl⟩
  have hb1 : Below W.heap.size W W1 := by rw [hW1]; exact (Below.refl _ _).alloc (Nat.le_refl _) _
  have HW : Hid (W1.heap[W.heap.size]? = some (.cells #[.int .i64 0, .string ⟨#[]⟩, .int .i64 0, .int .i64 0] 43 (0, 0))) := Lib.hid (by rw [hW1]; exact heap_alloc_new W _)
  have H1 : Hid (Cd W1 b g cap dv ts xb σ) := Lib.hid (h.out.below hb1)
  obtain ⟨o, c, ⟨c0, c1, c2, c3, fr⟩, hx⟩ := h.out.cells
  obtain ⟨t0, t1, t2, t3⟩ := h.out.tok
  have hl := h.out.at_
  have hgs : g < W.heap.size := by have := h.out.lt; have := h.out.size; omega
  have HKW := Lib.hid (RX.of_below hb1 (Nat.le_of_lt h.out.size) h.out.xlt)
  obtain ⟨m, hmm⟩ : ∃ m, m = ts.length - σ.at_ := ⟨_, rfl⟩
  obtain ⟨a4, haa⟩ : ∃ a4, a4 = σ.at_ * 4 := ⟨_, rfl⟩
  obtain ⟨kd, hkd⟩ : ∃ kd, kd = (tokL ts σ.at_).kind := ⟨_, rfl⟩
  rw [← hmm, ← haa] at c0
  rw [← hkd, ← haa] at t0
  have k0 : (0 : Int) < (m : Int) := by omega
  have hbs : b < W.heap.size := h.out.size
  have HC := Lib.hid hc
  have HKD := Lib.hid hkd
  clear hmm haa t1 t2 t3 hl hx c1 c2 c3 fr hc hkd hb1
  by_cases h1 : kd = 1
  · have T := Lib.hid (take_any b g cap dv ts xb σ W1 H1 (by rw [← HKD.out]; omega))
    have HN : Hid (nameS ts σ = stepS σ) := Lib.hid (by unfold nameS nameB; rw [decide_eq_true HC.out, decide_eq_true (show (tokL ts σ.at_).kind = 1 by rw [← HKD.out]; exact h1)]; rfl)
    subst h1
    rw [HN.out]
    obtain ⟨K, hK⟩ : ∃ K, K = (tokL ts σ.at_).kind := ⟨_, rfl⟩
    obtain ⟨X, hX⟩ : ∃ X, X = str (tokL ts σ.at_).text := ⟨_, rfl⟩
    obtain ⟨V, hV⟩ : ∃ V, V = (tokL ts σ.at_).v := ⟨_, rfl⟩
    obtain ⟨P, hP⟩ : ∃ P, P = (tokL ts σ.at_).at_ := ⟨_, rfl⟩
    have T2 : Hid (Calls Tryz.prog 61 #[.pointer (some ⟨b, 0, none⟩)] W1 fun r Y => r = .returned (.agg #[.int .i64 (K : Int), .string X, .int .i64 V, .int .i64 (P : Int)]) ∧ Hid (Cd Y b g cap dv ts xb (stepS σ)) ∧ Hid (RX b xb W1 Y)) := Lib.hid (by
      have := T.out; unfold TakeRet tokV at this; rw [← hK, ← hX, ← hV, ← hP] at this; exact this)
    unfold tokV
    rw [← hK, ← hX, ← hV, ← hP]
    clear hK hX hV hP T
    go_enter Tryz.func33, Tryz.ntmps33
    go_wp2_with (go_at_call 61; rw [← hW1]; clear hW1; (with_reducible refine T2.out.mono ?_); rintro e w2 ⟨rfl, hr, hk⟩; have hb2 := Lib.hid (hk.out.keep _ _ HW.out (by omega) (fun cs e => by cases e)); obtain ⟨⟨b0, b1, b2, b3⟩, bf⟩ := four_of hb2.out; have z0 := bf 0; have z1 := bf 1; have z2 := bf 2; have z3 := bf 3; clear bf)
    have hbut := but_four w2 W.heap.size (.int .i64 (K : Int)) (.string X) (.int .i64 V) (.int .i64 (P : Int))
    obtain ⟨⟨r0, r1, r2, r3⟩, -⟩ := four_of (set_four hb2.out (.int .i64 (K : Int)) (.string X) (.int .i64 V) (.int .i64 (P : Int)))
    exact bodyPost_ret (v := .agg #[.int .i64 (K : Int), .string X, .int .i64 V, .int .i64 (P : Int)]) (by simp [results, Tryz.results33, go_sem, r0, r1, r2, r3]) rfl
      ⟨(HKW.out.trans hk.out).but h.out.xlt (Nat.le_refl _) hbs hbs hbut, .inl ⟨HC.out, rfl, hr.out.but hb2.out (by decide) (by decide) hbs hbut⟩⟩
  · have q1 : ((kd : Int) != 1) = true := bne_iff_ne.2 (by omega)
    have e3 : nameS ts σ = { σ with code := 2, pos := ((tokL ts σ.at_).at_ : Int) } := by
      unfold nameS nameB failS
      rw [decide_eq_false (show ¬ (tokL ts σ.at_).kind = 1 by rw [← HKD.out]; exact h1), Bool.and_false, if_neg (by decide), if_pos HC.out]
    have E := Lib.hid e3
    have RF := Lib.hid (refusal_any b g cap dv ts xb σ 2 W1 H1)
    clear h1 e3
    go_enter Tryz.func33, Tryz.ntmps33
    go_wp2_with (go_at_call 60; rw [← hW1]; clear hW1; (with_reducible refine RF.out.mono ?_); rintro e w3 ⟨rfl, hb3⟩)
    rw [E.out]
    exact ⟨rfl, HKW.out.trans (RX.of_below hb3 (Nat.le_of_lt H1.out.size) H1.out.xlt), .inr ⟨(by decide : (2 : Int) ≠ 0), rfl⟩⟩
theorem field_text (k v a : Int) (x : ByteArray) (w : World) : (Instr.field 43 (.agg #[.int .i64 k, .string x, .int .i64 v, .int .i64 a]) 1).run Tryz.prog w = .ok (.string x) w := by kernel_rfl
theorem field_at (k v a : Int) (x : ByteArray) (w : World) : (Instr.field 43 (.agg #[.int .i64 k, .string x, .int .i64 v, .int .i64 a]) 3).run Tryz.prog w = .ok (.int .i64 a) w := by kernel_rfl
set_option maxHeartbeats 4000000 in
theorem cname_any (b g cap : Nat) (dv : Value) (ts : List Tok) (xb : Nat → Prop) (σ : RS) (W : World) (h : Hid (Cd W b g cap dv ts xb σ)) (hc : σ.code = 0) :
    Calls Tryz.prog 63 #[.pointer (some ⟨b, 0, none⟩)] W fun r Y => CdRet b g cap dv ts xb W (.string (str (nameV ts σ))) (nameS ts σ) r Y := by
  have C := Lib.hid (want_name b g cap dv ts xb σ W h hc)
  by_cases h1 : (nameS ts σ).code = 0
  · have e : nameV ts σ = (tokL ts σ.at_).text := by
      by_cases hb : nameB ts σ = true
      · unfold nameV; rw [if_pos hb]
      · unfold nameS failS at h1
        rw [if_neg hb, if_pos hc] at h1
        exact absurd h1 (by decide : ¬ (2 : Int) = 0)
    have C2 : Hid (Calls Tryz.prog 33 #[.pointer (some ⟨b, 0, none⟩), .int .i64 1] W fun r Y => CdOk b g cap dv ts xb W (tokV (tokL ts σ.at_)) (nameS ts σ) r Y) := Lib.hid (C.out.mono fun r Y hh => CdRet.ok hh h1)
    rw [e]
    have H1 := Lib.hid h1
    unfold tokV at C2
    obtain ⟨X, hX⟩ : ∃ X, X = str (tokL ts σ.at_).text := ⟨_, rfl⟩
    obtain ⟨K, hK⟩ : ∃ K, K = (tokL ts σ.at_).kind := ⟨_, rfl⟩
    obtain ⟨V, hV⟩ : ∃ V, V = (tokL ts σ.at_).v := ⟨_, rfl⟩
    obtain ⟨P, hP⟩ : ∃ P, P = (tokL ts σ.at_).at_ := ⟨_, rfl⟩
    rw [← hX, ← hK, ← hV, ← hP] at C2
    rw [← hX]
    clear hX hK hV hP C e h1
    have FT := field_text
    go_enter Tryz.func63, Tryz.ntmps63
    go_wp2_with (go_at_call 33; (with_reducible refine C2.out.mono ?_); rintro e w3 ⟨rfl, hr, hk⟩)
    go_ret
    exact ⟨hk.out, .inl ⟨H1.out, rfl, hr.out⟩⟩
  · have C2 : Hid (Calls Tryz.prog 33 #[.pointer (some ⟨b, 0, none⟩), .int .i64 1] W fun r Y => CdBad b xb W (nameS ts σ).code (nameS ts σ).pos r Y) := Lib.hid (C.out.mono fun r Y hh => CdRet.bad hh h1)
    have H1 := Lib.hid h1
    clear C h1
    go_enter Tryz.func63, Tryz.ntmps63
    go_wp2_with (go_at_call 33; (with_reducible refine C2.out.mono ?_); rintro e w3 ⟨rfl, hk⟩)
    exact ⟨rfl, hk.out, .inr ⟨H1.out, rfl⟩⟩
end Go.Proofs.YtlbhlncipajapaaGreatDoor
namespace Go.Proofs.YtlbhlncipajapaaGreatDoor
open Go.RowKit Lx
set_option linter.unusedVariables false

/-- what was made, wherever the tokens stand -/
def Fin (W : World) (b : Nat) (dv : Value) (xb : Nat → Prop) (σ : RS) : Prop := ∃ s d o c, W.heap[b]? = some (.cells #[s, dv, .slice o σ.exprs.length c, .int .i64 d] 78 (0, 0)) ∧ ExsOwn W b xb (.slice o σ.exprs.length c) σ.exprs
theorem Fin.below {W Y : World} {b : Nat} {dv : Value} {xb : Nat → Prop} {σ : RS} (h : Fin W b dv xb σ) (hb : Below W.heap.size W Y) : Fin Y b dv xb σ := by
  obtain ⟨s, d, o, c, h1, h2⟩ := h
  exact ⟨s, d, o, c, (hb.block b (heap_lt h1)).trans h1, h2.same fun k _ hk => hb.block k hk⟩
theorem Cd.fin {W : World} {b g cap : Nat} {dv : Value} {ts : List Tok} {xb : Nat → Prop} {σ : RS} (h : Cd W b g cap dv ts xb σ) (v : Value) : Fin (W.setCell ⟨b, 0, none⟩ v) b dv xb σ := by
  obtain ⟨o, c, h1, h2, h3⟩ := h.blk
  exact ⟨v, σ.deep, o, c, by rw [set_blk h1]; rfl, h2.same fun k hk _ => Below.heap_setCell W ⟨b, 0, none⟩ v k (by simp; omega)⟩
set_option maxHeartbeats 4000000 in
theorem take_end (b g cap : Nat) (dv : Value) (ts : List Tok) (xb : Nat → Prop) (σ : RS) (W : World) (h : Hid (Cd W b g cap dv ts xb σ)) (hk : (tokL ts σ.at_).kind = 5) :
    Calls Tryz.prog 61 #[.pointer (some ⟨b, 0, none⟩)] W fun r Y => r = .returned (tokV (tokL ts σ.at_)) ∧ Hid (Fin Y b dv xb σ) ∧ Hid (RX b xb W Y) := by
  obtain ⟨o, c, ⟨c0, c1, c2, c3, fr⟩, hx⟩ := h.out.cells
  obtain ⟨t0, t1, t2, t3⟩ := h.out.tok
  have hl := h.out.at_
  have hcp := h.out.cp
  have hnx : σ.at_ + 1 = ts.length := (h.out.ends.2 σ.at_ (tokL ts σ.at_) (by unfold tokL; rw [List.getD_eq_getElem?_getD, List.getElem?_eq_getElem h.out.at_]; rfl)).2 hk
  have f0 := fr 0
  unfold tokV
  obtain ⟨kd, hkd⟩ : ∃ kd, kd = (tokL ts σ.at_).kind := ⟨_, rfl⟩
  obtain ⟨tx, htx⟩ : ∃ tx, tx = (tokL ts σ.at_).text := ⟨_, rfl⟩
  obtain ⟨tv, htv⟩ : ∃ tv, tv = (tokL ts σ.at_).v := ⟨_, rfl⟩
  obtain ⟨p, hp⟩ : ∃ p, p = (tokL ts σ.at_).at_ := ⟨_, rfl⟩
  rw [← hkd] at t0
  rw [← htx] at t1
  rw [← htv] at t2
  rw [← hp] at t3
  rw [← hkd, ← htx, ← htv, ← hp]
  obtain ⟨m, hmm⟩ : ∃ m, m = cap - σ.at_ := ⟨_, rfl⟩
  obtain ⟨a4, haa⟩ : ∃ a4, a4 = σ.at_ * 4 := ⟨_, rfl⟩
  rw [show ts.length - σ.at_ = 1 by omega, ← hmm, ← haa] at c0
  rw [← haa] at t0 t1 t2 t3
  have k2 : (1 : Int) ≤ (m : Int) := by omega
  have hgs : g < W.heap.size := by have := h.out.lt; have := h.out.size; omega
  have hbs : b < W.heap.size := h.out.size
  clear hmm haa hp hkd htx htv hl hx c1 c2 c3 fr hcp hnx hk
  by_cases k3 : m = 1
  · subst k3; go_enter Tryz.func61, Tryz.ntmps61
    go_wp2_with fail
    obtain ⟨W1, hW1⟩ : ∃ W1, W1 = W.setCell ⟨b, 0, none⟩ (.slice (some ⟨g, a4, none⟩) 0 0) := ⟨_, rfl⟩
    have HC : Hid (Fin W1 b dv xb σ) := Lib.hid (by rw [hW1]; exact h.out.fin _)
    have HR : Hid (RX b xb W W1) := Lib.hid (by rw [hW1]; exact RX.set h.out.xnb 0 _)
    have hs : W.heap.size = W1.heap.size := by rw [hW1]; simp
    have HX := Lib.hid (show ∀ k, xb k → k < W1.heap.size from fun k hk => by rw [← hs]; exact h.out.xlt k hk)
    rw [← hW1]
    have HB := Lib.hid (((Below.refl W1.heap.size W1).alloc (Nat.le_refl _) (.cells #[.int .i64 (kd : Int), .string (str tx), .int .i64 tv, .int .i64 (p : Int)] 43)).alloc (by simp) (.cells #[.int .i64 (kd : Int), .string (str tx), .int .i64 tv, .int .i64 (p : Int)] 43))
    have hb1 : b ≤ W1.heap.size := by omega
    clear hW1
    rw [hs]
    obtain ⟨⟨r0, r1, r2, r3⟩, -⟩ := box_four W1 (.int .i64 (kd : Int)) (.string (str tx)) (.int .i64 tv) (.int .i64 (p : Int)) 43 (.cells #[.int .i64 (kd : Int), .string (str tx), .int .i64 tv, .int .i64 (p : Int)] 43)
    exact bodyPost_ret (v := .agg #[.int .i64 (kd : Int), .string (str tx), .int .i64 tv, .int .i64 (p : Int)]) (by simp [results, Tryz.results61, go_sem, r0, r1, r2, r3]) rfl ⟨rfl, Lib.hid (HC.out.below HB.out), Lib.hid (HR.out.trans (RX.of_below HB.out hb1 HX.out))⟩
  · go_enter Tryz.func61, Tryz.ntmps61
    go_wp2_with fail
    obtain ⟨W1, hW1⟩ : ∃ W1, W1 = W.setCell ⟨b, 0, none⟩ (.slice (some ⟨g, a4 + 4, none⟩) 0 (m - 1)) := ⟨_, rfl⟩
    have HC : Hid (Fin W1 b dv xb σ) := Lib.hid (by rw [hW1]; exact h.out.fin _)
    have HR : Hid (RX b xb W W1) := Lib.hid (by rw [hW1]; exact RX.set h.out.xnb 0 _)
    have hs : W.heap.size = W1.heap.size := by rw [hW1]; simp
    have HX := Lib.hid (show ∀ k, xb k → k < W1.heap.size from fun k hk => by rw [← hs]; exact h.out.xlt k hk)
    rw [← hW1]
    have HB := Lib.hid (((Below.refl W1.heap.size W1).alloc (Nat.le_refl _) (.cells #[.int .i64 (kd : Int), .string (str tx), .int .i64 tv, .int .i64 (p : Int)] 43)).alloc (by simp) (.cells #[.int .i64 (kd : Int), .string (str tx), .int .i64 tv, .int .i64 (p : Int)] 43))
    have hb1 : b ≤ W1.heap.size := by omega
    clear hW1
    rw [hs]
    obtain ⟨⟨r0, r1, r2, r3⟩, -⟩ := box_four W1 (.int .i64 (kd : Int)) (.string (str tx)) (.int .i64 tv) (.int .i64 (p : Int)) 43 (.cells #[.int .i64 (kd : Int), .string (str tx), .int .i64 tv, .int .i64 (p : Int)] 43)
    exact bodyPost_ret (v := .agg #[.int .i64 (kd : Int), .string (str tx), .int .i64 tv, .int .i64 (p : Int)]) (by simp [results, Tryz.results61, go_sem, r0, r1, r2, r3]) rfl ⟨rfl, Lib.hid (HC.out.below HB.out), Lib.hid (HR.out.trans (RX.of_below HB.out hb1 HX.out))⟩
end Go.Proofs.YtlbhlncipajapaaGreatDoor
namespace Go.Proofs.YtlbhlncipajapaaGreatDoor
open Go.RowKit Lx
set_option linter.unusedVariables false

theorem Fin.but {W Y : World} {b : Nat} {dv : Value} {xb : Nat → Prop} {σ : RS} (h : Fin W b dv xb σ) {A : Nat} {cs : Array Value} {T : TypeId} {fr : Nat × Nat} (hA : W.heap[A]? = some (.cells cs T fr)) (h1 : T ≠ 46) (h2 : T ≠ 3) (hb : b < A) (hy : But A W Y) : Fin Y b dv xb σ := by
  obtain ⟨s, d, o, c, hc, q, q1, q2, q3⟩ := h
  refine ⟨s, d, o, c, (hy.block b (by omega) (heap_lt hc)).trans hc, q, q1, rd_own_same q2 fun k e => hy.block k ?_ (q2.lt k e).2, fun p hp => ⟨rd_own_same (q3 p hp).1 fun k e => hy.block k ?_ ((q3 p hp).1.lt k e).2, (q3 p hp).2⟩⟩
  · rintro rfl
    obtain ⟨_, cs', hk⟩ := own_type q2 e
    rw [hA] at hk; cases hk; exact h1 rfl
  · rintro rfl
    obtain ⟨_, cs', hk⟩ := own_type (q3 p hp).1 e
    rw [hA] at hk; cases hk; exact h2 rfl
def EndRet (b : Nat) (dv : Value) (ts : List Tok) (xb : Nat → Prop) (W : World) (σ : RS) (r : Ending) (Y : World) : Prop :=
  RX b xb W Y ∧ (((tokL ts σ.at_).kind = 5 ∧ r = .returned (tokV (tokL ts σ.at_)) ∧ Fin Y b dv xb σ) ∨ (¬ (tokL ts σ.at_).kind = 5 ∧ r = .panicked [{ v := refusalV 2 ((tokL ts σ.at_).at_ : Int), recovered := false }]))
set_option maxHeartbeats 4000000 in
theorem want_end (b g cap : Nat) (dv : Value) (ts : List Tok) (xb : Nat → Prop) (σ : RS) (W : World) (h : Hid (Cd W b g cap dv ts xb σ)) (hc : σ.code = 0) :
    Calls Tryz.prog 33 #[.pointer (some ⟨b, 0, none⟩), .int .i64 5] W fun r Y => EndRet b dv ts xb W σ r Y := by
  unfold EndRet
  obtain ⟨W1, hW1⟩ : ∃ W1, W1 = W.alloc (.cells #[.int .i64 0, .string ⟨#[]⟩, .int .i64 0, .int .i64 0] 43) := ⟨_, rfl⟩
  have hb1 : Below W.heap.size W W1 := by rw [hW1]; exact (Below.refl _ _).alloc (Nat.le_refl _) _
  have HW : Hid (W1.heap[W.heap.size]? = some (.cells #[.int .i64 0, .string ⟨#[]⟩, .int .i64 0, .int .i64 0] 43 (0, 0))) := Lib.hid (by rw [hW1]; exact heap_alloc_new W _)
  have H1 : Hid (Cd W1 b g cap dv ts xb σ) := Lib.hid (h.out.below hb1)
  obtain ⟨o, c, ⟨c0, c1, c2, c3, fr⟩, hx⟩ := h.out.cells
  obtain ⟨t0, t1, t2, t3⟩ := h.out.tok
  have hl := h.out.at_
  have hgs : g < W.heap.size := by have := h.out.lt; have := h.out.size; omega
  have HKW := Lib.hid (RX.of_below hb1 (Nat.le_of_lt h.out.size) h.out.xlt)
  obtain ⟨m, hmm⟩ : ∃ m, m = ts.length - σ.at_ := ⟨_, rfl⟩
  obtain ⟨a4, haa⟩ : ∃ a4, a4 = σ.at_ * 4 := ⟨_, rfl⟩
  obtain ⟨kd, hkd⟩ : ∃ kd, kd = (tokL ts σ.at_).kind := ⟨_, rfl⟩
  rw [← hmm, ← haa] at c0
  rw [← hkd, ← haa] at t0
  have k0 : (0 : Int) < (m : Int) := by omega
  have hbs : b < W.heap.size := h.out.size
  have HC := Lib.hid hc
  have HKD := Lib.hid hkd
  clear hmm haa t1 t2 t3 hl hx c1 c2 c3 fr hc hkd hb1
  by_cases h1 : kd = 5
  · have T := Lib.hid (take_end b g cap dv ts xb σ W1 H1 (by rw [← HKD.out]; exact h1))
    have HE : Hid ((tokL ts σ.at_).kind = 5) := Lib.hid (HKD.out.symm.trans h1)
    subst h1
    obtain ⟨K, hK⟩ : ∃ K, K = (tokL ts σ.at_).kind := ⟨_, rfl⟩
    obtain ⟨X, hX⟩ : ∃ X, X = str (tokL ts σ.at_).text := ⟨_, rfl⟩
    obtain ⟨V, hV⟩ : ∃ V, V = (tokL ts σ.at_).v := ⟨_, rfl⟩
    obtain ⟨P, hP⟩ : ∃ P, P = (tokL ts σ.at_).at_ := ⟨_, rfl⟩
    have T2 : Hid (Calls Tryz.prog 61 #[.pointer (some ⟨b, 0, none⟩)] W1 fun r Y => r = .returned (.agg #[.int .i64 (K : Int), .string X, .int .i64 V, .int .i64 (P : Int)]) ∧ Hid (Fin Y b dv xb σ) ∧ Hid (RX b xb W1 Y)) := Lib.hid (by
      have := T.out; unfold tokV at this; rw [← hK, ← hX, ← hV, ← hP] at this; exact this)
    unfold tokV
    rw [← hK, ← hX, ← hV, ← hP]
    have HE := Lib.hid (hK.trans HE.out)
    clear hK hX hV hP T
    go_enter Tryz.func33, Tryz.ntmps33
    go_wp2_with (go_at_call 61; rw [← hW1]; clear hW1; (with_reducible refine T2.out.mono ?_); rintro e w2 ⟨rfl, hr, hk⟩; have hb2 := Lib.hid (hk.out.keep _ _ HW.out (by omega) (fun cs e => by cases e)); obtain ⟨⟨b0, b1, b2, b3⟩, bf⟩ := four_of hb2.out; have z0 := bf 0; have z1 := bf 1; have z2 := bf 2; have z3 := bf 3; clear bf)
    have hbut := but_four w2 W.heap.size (.int .i64 (K : Int)) (.string X) (.int .i64 V) (.int .i64 (P : Int))
    obtain ⟨⟨r0, r1, r2, r3⟩, -⟩ := four_of (set_four hb2.out (.int .i64 (K : Int)) (.string X) (.int .i64 V) (.int .i64 (P : Int)))
    exact bodyPost_ret (v := .agg #[.int .i64 (K : Int), .string X, .int .i64 V, .int .i64 (P : Int)]) (by simp [results, Tryz.results33, go_sem, r0, r1, r2, r3]) rfl
      ⟨(HKW.out.trans hk.out).but h.out.xlt (Nat.le_refl _) hbs hbs hbut, .inl ⟨HE.out, rfl, hr.out.but hb2.out (by decide) (by decide) hbs hbut⟩⟩
  · have q1 : ((kd : Int) != 5) = true := bne_iff_ne.2 (by omega)
    have HE : Hid (¬ (tokL ts σ.at_).kind = 5) := Lib.hid (fun e => h1 (HKD.out.trans e))
    have RF := Lib.hid (refusal_any b g cap dv ts xb σ 2 W1 H1)
    clear h1
    go_enter Tryz.func33, Tryz.ntmps33
    go_wp2_with (go_at_call 60; rw [← hW1]; clear hW1; (with_reducible refine RF.out.mono ?_); rintro e w3 ⟨rfl, hb3⟩)
    exact ⟨rfl, HKW.out.trans (RX.of_below hb3 (Nat.le_of_lt H1.out.size) H1.out.xlt), .inr ⟨HE.out, rfl⟩⟩
end Go.Proofs.YtlbhlncipajapaaGreatDoor
namespace Go.Proofs.YtlbhlncipajapaaGreatDoor
open Go.RowKit Lx
set_option linter.unusedVariables false

theorem But.below {A : Nat} {W X Y : World} (h : But A W X) (hb : Below X.heap.size X Y) : But A W Y :=
  ⟨hb.os.trans h.os, hb.tape.trans h.tape, hb.output.trans h.output, Nat.le_trans h.size hb.size, fun k hk hl => (hb.block k (Nat.lt_of_lt_of_le hl h.size)).trans (h.block k hk hl)⟩
set_option maxRecDepth 20000 in
set_option maxHeartbeats 4000000 in
theorem catch_panicking (q : Nat) (c p : Int) (u0 v0 : Value) (w : World) (hc : w.heap[q]? = some (.cells #[u0, v0] 29 (0, 0))) :
    CallsD Tryz.prog 32 #[.pointer (some ⟨q, 0, none⟩)] (.panicking [{ v := refusalV c p, recovered := false }]) w fun e u' w' =>
      e = .returned (.tuple #[]) ∧ u' = .panicking [{ v := refusalV c p, recovered := true }] ∧ w'.heap[q]? = some (.cells #[.int .i64 c, .int .i64 p] 29 (0, 0)) ∧ But q w w' := by
  have hqs : q < w.heap.size := heap_lt hc
  have d0 : w.cell? ⟨q, 0, none⟩ = some u0 := by simp [World.cell?, hc]
  have d1 : w.cell? ⟨q, 1, none⟩ = some v0 := by simp [World.cell?, hc]
  have z0 : w.frozen? ⟨q, 0, none⟩ = false := by simp [World.frozen?, hc]
  have z1 : w.frozen? ⟨q, 1, none⟩ = false := by simp [World.frozen?, hc]
  unfold refusalV
  refine callsD_of_wpS Tryz.func32 rfl fun c₀ cs hu => ?_
  apply wpS_seq
  apply wpS_region
  simp [wpOpsS, go_sem, recoverD, hu, Tryz.ntmps32, Exit.thenS]
  have TA : ∀ w : World, (Instr.typeAssert (.iface 75 (.agg #[.int .i64 c, .int .i64 p])) 20 75 true).run Tryz.prog w = .ok (.tuple #[.agg #[.int .i64 c, .int .i64 p], .bool true]) w := fun w => by kernel_rfl
  refine wpS_of_wp ?_
  rw [show (#[.pointer (some ⟨q, 0, none⟩)] ++ (((Array.replicate 14 undef).setIfInBounds 3 (.iface 75 (.agg #[.int .i64 c, .int .i64 p]))).setIfInBounds 0 (.iface 75 (.agg #[.int .i64 c, .int .i64 p]))) : Array Value) = #[.pointer (some ⟨q, 0, none⟩), (.iface 75 (.agg #[.int .i64 c, .int .i64 p])), undef, undef, (.iface 75 (.agg #[.int .i64 c, .int .i64 p])), undef, undef, undef, undef, undef, undef, undef, undef, undef, undef] from rfl]
  go_wp2_with fail
  obtain ⟨w9, hw9⟩ : ∃ w9, w9 = ((w.setCell ⟨q, 0, none⟩ (.int .i64 c)).setCell ⟨q, 1, none⟩ (.int .i64 p)).alloc (.cells #[.int .i64 c, .int .i64 p] 75) := ⟨_, rfl⟩
  have e1 : w9.heap[q]? = some (.cells #[.int .i64 c, .int .i64 p] 29 (0, 0)) := by
    rw [hw9, ((Below.refl _ _).alloc (Nat.le_refl _) _ : Below ((w.setCell ⟨q, 0, none⟩ (.int .i64 c)).setCell ⟨q, 1, none⟩ (.int .i64 p)).heap.size _ _).block q (by simp; omega), set_blk (set_blk hc 0 (.int .i64 c)) 1 (.int .i64 p)]
    rfl
  have e2 : But q w w9 := by
    rw [hw9]
    exact (((But.refl q w).set 0 (.int .i64 c)).set 1 (.int .i64 p)).below ((Below.refl _ _).alloc (Nat.le_refl _) _)
  rw [← hw9]
  simp [bodyPostS, results, Tryz.results32]
  exact ⟨e1, e2⟩
set_option maxRecDepth 20000 in
set_option maxHeartbeats 4000000 in
theorem catch_idle (q : Nat) (w : World) :
    CallsD Tryz.prog 32 #[.pointer (some ⟨q, 0, none⟩)] .returning w fun e u' w' => e = .returned (.tuple #[]) ∧ u' = .returning ∧ Below w.heap.size w w' := by
  refine callsD_of_wpS Tryz.func32 rfl fun c₀ cs hu => ?_
  apply wpS_seq
  apply wpS_region
  simp [wpOpsS, go_sem, recoverD, hu, Tryz.ntmps32, Exit.thenS]
  have TA : ∀ w : World, (Instr.typeAssert .nilIface 20 75 true).run Tryz.prog w = .ok (.tuple #[.agg #[.int .i64 0, .int .i64 0], .bool false]) w := fun w => by kernel_rfl
  refine wpS_of_wp ?_
  rw [show (#[.pointer (some ⟨q, 0, none⟩)] ++ (((Array.replicate 14 undef).setIfInBounds 3 .nilIface).setIfInBounds 0 .nilIface) : Array Value) = #[.pointer (some ⟨q, 0, none⟩), .nilIface, undef, undef, .nilIface, undef, undef, undef, undef, undef, undef, undef, undef, undef, undef] from rfl]
  go_wp2_with fail
  have e1 : Below w.heap.size w (w.alloc (.cells #[.int .i64 0, .int .i64 0] 75)) := (Below.refl _ _).alloc (Nat.le_refl _) _
  cases c₀
  simp_all [bodyPostS, results, Tryz.results32]
end Go.Proofs.YtlbhlncipajapaaGreatDoor
