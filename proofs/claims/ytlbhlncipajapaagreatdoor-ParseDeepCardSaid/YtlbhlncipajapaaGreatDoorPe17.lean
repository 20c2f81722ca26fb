/- Joined: CdStuck, CdMem, CdSmall, CdFits. -/
import Derived.Test.YtlbhlncipajapaaGreatDoorPe14
import Derived.Test.YtlbhlncipajapaaGreatDoorPe16
import Derived.WalkSmall
import Derived.Test.YtlbhlncipajapaaGreatDoorShelf
namespace Go.Proofs.YtlbhlncipajapaaGreatDoor
open Lx
set_option linter.unusedVariables false

/-- the fault of a state is that of an earlier one, if that has one -/
def Stays (σ τ : RS) : Prop := σ.code ≠ 0 → τ.code = σ.code ∧ τ.pos = σ.pos
theorem Stays.refl (σ : RS) : Stays σ σ := fun _ => ⟨rfl, rfl⟩
theorem Stays.trans {σ τ υ : RS} (h : Stays σ τ) (k : Stays τ υ) : Stays σ υ := fun hc => by
  obtain ⟨h1, h2⟩ := h hc
  obtain ⟨k1, k2⟩ := k (by rw [h1]; exact hc)
  exact ⟨k1.trans h1, k2.trans h2⟩
theorem isS_bad {ts : List Tok} {s : List UInt8} {σ : RS} (h : σ.code ≠ 0) : isS ts s σ = false := by unfold isS; simp [h]
theorem stays_want (ts : List Tok) (s : List UInt8) (σ : RS) : Stays σ (wantS ts s σ) := fun h => by unfold wantS failS; rw [isS_bad h]; simp [h]
theorem stays_took (ts : List Tok) (s : List UInt8) (σ : RS) : Stays σ (tookS ts s σ) := fun h => by unfold tookS; rw [isS_bad h]; simp
theorem stays_name (ts : List Tok) (σ : RS) : Stays σ (nameS ts σ) := fun h => by unfold nameS nameB failS; simp [h]
theorem stays_step (σ : RS) : Stays σ (stepS σ) := fun _ => ⟨rfl, rfl⟩
theorem stays_put (x : Ex) (σ : RS) : Stays σ (putS x σ) := fun _ => ⟨rfl, rfl⟩
theorem stays_enter (ts : List Tok) (σ : RS) : Stays σ (enterS ts σ) := fun h => by unfold enterS tooDeep failS; simp [h]
theorem stays_leave (σ : RS) : Stays σ (leaveS σ) := fun _ => ⟨rfl, rfl⟩
theorem sputA_some {x : Ex} {σ : RS} {K : Int → RS → Ans} {R : Int × List Int × RS} (h : putA x σ K = some R) : okS σ = true ∧ K (σ.exprs.length : Int) (putS x σ) = some R := by
  unfold putA at h
  split at h
  · rename_i hk; exact ⟨hk, h⟩
  · cases h
theorem bind_some' {α β : Type} {x : Option α} {K : α → Option β} {R : β} (h : x.bind K = some R) : ∃ a, x = some a ∧ K a = some R := by
  cases x with
  | none => cases h
  | some a => exact ⟨a, rfl, h⟩
theorem stuck (ts : List Tok) : ∀ (f : Nat) (j : Job) (σ : RS) (R : Int × List Int × RS), runE ts f j σ = some R → Stays σ R.2.2 := by
  intro f
  induction f with
  | zero => intro j σ R h; cases h
  | succ f ih =>
    intro j σ R h
    simp only [runE] at h
    split at h
    · cases j with
      | expr =>
        try dsimp only at h
        unfold exprG at h
        try dsimp only at h
        have e := stays_enter ts σ
        split at h
        · split at h
          · obtain ⟨a, h1, h⟩ := bind_some' h
            obtain ⟨b, h2, h⟩ := bind_some' h
            obtain ⟨c, h3, h⟩ := bind_some' h
            obtain ⟨_, h⟩ := sputA_some h
            obtain rfl := Option.some.inj h
            exact e.trans ((stays_step _).trans ((ih _ _ _ h1).trans ((stays_want _ _ _).trans ((ih _ _ _ h2).trans ((stays_want _ _ _).trans ((ih _ _ _ h3).trans ((stays_put _ _).trans (stays_leave _))))))))
          · obtain ⟨a, h1, h⟩ := bind_some' h
            try dsimp only at h
            split at h
            · obtain ⟨b, h2, h⟩ := bind_some' h
              obtain ⟨_, h⟩ := sputA_some h
              obtain rfl := Option.some.inj h
              exact e.trans ((ih _ _ _ h1).trans ((stays_step _).trans ((ih _ _ _ h2).trans ((stays_put _ _).trans (stays_leave _)))))
            · split at h
              · obtain ⟨b, h2, h⟩ := bind_some' h
                obtain ⟨_, h⟩ := sputA_some h
                obtain rfl := Option.some.inj h
                exact e.trans ((ih _ _ _ h1).trans ((stays_step _).trans ((ih _ _ _ h2).trans ((stays_put _ _).trans (stays_leave _)))))
              · split at h
                · obtain rfl := Option.some.inj h
                  exact e.trans ((ih _ _ _ h1).trans (stays_leave _))
                · cases h
        · obtain rfl := Option.some.inj h
          exact e.trans (stays_leave _)
      | pre =>
        try dsimp only at h
        unfold preG at h
        try dsimp only at h
        have e := stays_enter ts σ
        split at h
        · split at h
          · obtain ⟨a, h1, h⟩ := bind_some' h
            split at h
            · obtain rfl := Option.some.inj h
              exact e.trans ((ih _ _ _ h1).trans (stays_leave _))
            · cases h
          · obtain ⟨a, h1, h⟩ := bind_some' h
            obtain ⟨_, h⟩ := sputA_some h
            obtain rfl := Option.some.inj h
            exact e.trans ((stays_step _).trans ((ih _ _ _ h1).trans ((stays_put _ _).trans (stays_leave _))))
        · obtain rfl := Option.some.inj h
          exact e.trans (stays_leave _)
      | atom =>
        try dsimp only at h
        unfold atomG at h
        try dsimp only at h
        split at h
        · obtain ⟨_, h⟩ := sputA_some h
          obtain rfl := Option.some.inj h
          exact (stays_step _).trans (stays_put _ _)
        · split at h
          · obtain ⟨_, h⟩ := sputA_some h
            obtain rfl := Option.some.inj h
            exact (stays_step _).trans (stays_put _ _)
          · split at h
            · obtain ⟨_, h⟩ := sputA_some h
              obtain rfl := Option.some.inj h
              exact (stays_step _).trans (stays_put _ _)
            · split at h
              · split at h
                · obtain ⟨_, h⟩ := sputA_some h
                  obtain rfl := Option.some.inj h
                  exact (stays_step _).trans ((stays_step _).trans ((stays_name _ _).trans (stays_put _ _)))
                · split at h
                  · split at h
                    · obtain ⟨_, h⟩ := sputA_some h
                      obtain rfl := Option.some.inj h
                      exact (stays_step _).trans ((stays_step _).trans ((stays_step _).trans (stays_put _ _)))
                    · obtain ⟨a, h1, h⟩ := bind_some' h
                      obtain ⟨b, h2, h⟩ := bind_some' h
                      obtain ⟨_, h⟩ := sputA_some h
                      obtain rfl := Option.some.inj h
                      exact (stays_step _).trans ((stays_step _).trans ((ih _ _ _ h1).trans ((ih _ _ _ h2).trans ((stays_want _ _ _).trans (stays_put _ _)))))
                  · obtain ⟨_, h⟩ := sputA_some h
                    obtain rfl := Option.some.inj h
                    exact (stays_step _).trans (stays_put _ _)
              · obtain ⟨a, h1, h⟩ := bind_some' h
                obtain rfl := Option.some.inj h
                exact (stays_want _ _ _).trans ((ih _ _ _ h1).trans (stays_want _ _ _))
      | bin least =>
        try dsimp only at h
        unfold binG at h
        split at h
        · exact ih _ _ _ h
        · obtain ⟨a, h1, h⟩ := bind_some' h
          exact (ih _ _ _ h1).trans (ih _ _ _ h)
      | loop least a =>
        try dsimp only at h
        unfold loopG at h
        split at h
        · rename_i h0
          intro hc
          exact absurd h0 hc
        · obtain rfl := Option.some.inj h
          exact Stays.refl _
      | args acc =>
        try dsimp only at h
        unfold argsG at h
        split at h
        · split at h
          · obtain ⟨a, h1, h⟩ := bind_some' h
            exact (stays_step _).trans ((ih _ _ _ h1).trans (ih _ _ _ h))
          · obtain rfl := Option.some.inj h
            exact Stays.refl _
        · cases h
    · cases h
theorem stuck_expr {ts : List Tok} {f : Nat} {σ τ : RS} {v : Int} {l : List Int} (j : Job) (h : runE ts f j σ = some (v, l, τ)) : Stays σ τ := stuck ts f j σ _ h
end Go.Proofs.YtlbhlncipajapaaGreatDoor
namespace Go.Proofs.YtlbhlncipajapaaGreatDoor
open Go.RowKit Lx
set_option linter.unusedVariables false

/-- words and signs -/
def sgL : List (List UInt8) := wordsL ++ signsL
/-- tokens of which those alone that are words and signs have such texts -/
def TxOk (ts : List Tok) : Prop := ∀ i, (tokL ts i).kind ≠ 3 → (tokL ts i).kind ≠ 4 → ∀ s ∈ sgL, (tokL ts i).text ≠ s
/-- the reader in block b, its tokens in block g -/
structure Cd (W : World) (b g cap : Nat) (dv : Value) (ts : List Tok) (xb : Nat → Prop) (σ : RS) : Prop where
  xlt : ∀ k, xb k → k < W.heap.size
  blk : ∃ o c, W.heap[b]? = some (.cells #[.slice (some ⟨g, σ.at_ * 4, none⟩) (ts.length - σ.at_) (cap - σ.at_), dv, .slice o σ.exprs.length c, .int .i64 σ.deep] 78 (0, 0)) ∧ ExsOwn W b xb (.slice o σ.exprs.length c) σ.exprs ∧ ∀ k, (Value.slice o σ.exprs.length c).ownBlock = some k → ¬ xb k
  xnb : ¬ xb b
  row : RowAt W g ts
  lt : g < b
  at_ : σ.at_ < ts.length
  len : ts.length ≤ 40000
  cp : ts.length ≤ cap
  ends : EndOk ts
  tx : TxOk ts
theorem Cd.size {W : World} {b g cap : Nat} {dv : Value} {ts : List Tok} {xb : Nat → Prop} {σ : RS} (h : Cd W b g cap dv ts xb σ) : b < W.heap.size := by
  obtain ⟨o, c, h1, _⟩ := h.blk; exact heap_lt h1
/-- what the reader keeps, and all of xb -/
structure RX (b : Nat) (xb : Nat → Prop) (W Y : World) : Prop where
  rk : RK b W Y
  xs : ∀ k, xb k → Y.heap[k]? = W.heap[k]?
theorem RX.refl (b : Nat) (xb : Nat → Prop) (W : World) : RX b xb W W := ⟨RK.refl _ _, fun _ _ => rfl⟩
theorem RX.trans {b : Nat} {xb : Nat → Prop} {X Y Z : World} (h : RX b xb X Y) (k : RX b xb Y Z) : RX b xb X Z := ⟨h.rk.trans k.rk, fun j hj => (k.xs j hj).trans (h.xs j hj)⟩
theorem RX.of_below {b : Nat} {xb : Nat → Prop} {W Y : World} (h : Below W.heap.size W Y) (hb : b ≤ W.heap.size) (hx : ∀ k, xb k → k < W.heap.size) : RX b xb W Y := ⟨RK.of_below h hb, fun k hk => h.block k (hx k hk)⟩
theorem RX.set {b : Nat} {xb : Nat → Prop} {W : World} (hn : ¬ xb b) (i : Nat) (v : Value) : RX b xb W (W.setCell ⟨b, i, none⟩ v) := ⟨RK.set i v, fun k hk => Below.heap_setCell W ⟨b, i, none⟩ v k (fun e => hn (by have : k = b := e; rw [← this]; exact hk))⟩
theorem RX.size {b : Nat} {xb : Nat → Prop} {W Y : World} (h : RX b xb W Y) : W.heap.size ≤ Y.heap.size := h.rk.size
theorem RX.keep {b : Nat} {xb : Nat → Prop} {W Y : World} (h : RX b xb W Y) (k : Nat) (o : Obj) (hk : W.heap[k]? = some o) (hb : k ≠ b) (hn : NoEx o) : Y.heap[k]? = some o := h.rk.keep k o hk hb hn
theorem Cd.below {W Y : World} {b g cap : Nat} {dv : Value} {ts : List Tok} {xb : Nat → Prop} {σ : RS} (h : Cd W b g cap dv ts xb σ) (hb : Below W.heap.size W Y) : Cd Y b g cap dv ts xb σ := by
  have hs := h.size
  obtain ⟨o, c, h1, h2, h3⟩ := h.blk
  exact ⟨fun k hk => Nat.lt_of_lt_of_le (h.xlt k hk) hb.size, ⟨o, c, (hb.block b hs).trans h1, h2.same fun k _ hk => hb.block k hk, h3⟩, h.xnb, row_low h.row (hb.block g (by have := h.lt; omega)), h.lt, h.at_, h.len, h.cp, h.ends, h.tx⟩
theorem Cd.alloc {W : World} {b g cap : Nat} {dv : Value} {ts : List Tok} {xb : Nat → Prop} {σ : RS} (h : Cd W b g cap dv ts xb σ) (o : Obj) : Cd (W.alloc o) b g cap dv ts xb σ := h.below ((Below.refl _ _).alloc (Nat.le_refl _) o)
theorem Cd.setOne {W : World} {b g cap : Nat} {dv : Value} {ts : List Tok} {xb : Nat → Prop} {σ τ : RS} (h : Cd W b g cap dv ts xb σ) (i : Nat) (v : Value) (he : τ.exprs = σ.exprs) (ht : τ.at_ < ts.length)
    (hc : ∀ x, (#[.slice (some ⟨g, σ.at_ * 4, none⟩) (ts.length - σ.at_) (cap - σ.at_), dv, x, .int .i64 σ.deep] : Array Value).setIfInBounds i v = #[.slice (some ⟨g, τ.at_ * 4, none⟩) (ts.length - τ.at_) (cap - τ.at_), dv, x, .int .i64 τ.deep]) :
    Cd (W.setCell ⟨b, i, none⟩ v) b g cap dv ts xb τ := by
  obtain ⟨o, c, h1, h2, h3⟩ := h.blk
  refine ⟨fun k hk => Nat.lt_of_lt_of_le (h.xlt k hk) ((Below.refl b W).setCell (p := ⟨b, i, none⟩) (Nat.le_refl _) v).size, ⟨o, c, ?_, ?_, by rw [he]; exact h3⟩, h.xnb, row_low h.row (Below.heap_setCell W ⟨b, i, none⟩ v g (by have := h.lt; simp; omega)), h.lt, ht, h.len, h.cp, h.ends, h.tx⟩
  · rw [he, set_blk h1, hc]
  · rw [he]; exact h2.same fun k hk _ => Below.heap_setCell W ⟨b, i, none⟩ v k (by simp; omega)
theorem Cd.setAt {W : World} {b g cap : Nat} {dv : Value} {ts : List Tok} {xb : Nat → Prop} {σ : RS} (h : Cd W b g cap dv ts xb σ) (hk : (tokL ts σ.at_).kind ≠ 5) : Cd (W.setCell ⟨b, 0, none⟩ (.slice (some ⟨g, (σ.at_ + 1) * 4, none⟩) (ts.length - (σ.at_ + 1)) (cap - (σ.at_ + 1)))) b g cap dv ts xb (stepS σ) :=
  h.setOne 0 _ rfl (h.ends.next h.at_ hk) fun x => by simp [stepS]
theorem Cd.setDeep {W : World} {b g cap : Nat} {dv : Value} {ts : List Tok} {xb : Nat → Prop} {σ : RS} (h : Cd W b g cap dv ts xb σ) (d : Int) : Cd (W.setCell ⟨b, 3, none⟩ (.int .i64 d)) b g cap dv ts xb { σ with deep := d } :=
  h.setOne 3 _ rfl h.at_ fun x => by simp
/-- the reader's cells -/
structure CdCells (W : World) (b g : Nat) (at_ ln cp : Nat) (n : Nat) (dv : Value) (o : Option Addr) (c : Nat) (deep : Int) : Prop where
  c0 : W.cell? ⟨b, 0, none⟩ = some (.slice (some ⟨g, at_ * 4, none⟩) ln cp)
  c1 : W.cell? ⟨b, 1, none⟩ = some dv
  c2 : W.cell? ⟨b, 2, none⟩ = some (.slice o n c)
  c3 : W.cell? ⟨b, 3, none⟩ = some (.int .i64 deep)
  fr : ∀ i, W.frozen? ⟨b, i, none⟩ = false
theorem Cd.cells {W : World} {b g cap : Nat} {dv : Value} {ts : List Tok} {xb : Nat → Prop} {σ : RS} (h : Cd W b g cap dv ts xb σ) : ∃ o c, CdCells W b g σ.at_ (ts.length - σ.at_) (cap - σ.at_) σ.exprs.length dv o c σ.deep ∧ ExsOwn W b xb (.slice o σ.exprs.length c) σ.exprs ∧ ∀ k, (Value.slice o σ.exprs.length c).ownBlock = some k → ¬ xb k := by
  obtain ⟨o, c, h1, h2⟩ := h.blk
  exact ⟨o, c, ⟨by simp [World.cell?, h1], by simp [World.cell?, h1], by simp [World.cell?, h1], by simp [World.cell?, h1], fun i => by simp [World.frozen?, h1]⟩, h2⟩
theorem Cd.tok {W : World} {b g cap : Nat} {dv : Value} {ts : List Tok} {xb : Nat → Prop} {σ : RS} (h : Cd W b g cap dv ts xb σ) : CellsAt W g σ.at_ (tokL ts σ.at_) :=
  h.row.2 _ _ (by unfold tokL; rw [List.getD_eq_getElem?_getD, List.getElem?_eq_getElem h.at_]; rfl)
/-- what is thrown -/
def refusalV (c p : Int) : Value := .iface 75 (.agg #[.int .i64 c, .int .i64 p])
/-- a rule's answer: a value, or a refusal -/
def CdRet (b g cap : Nat) (dv : Value) (ts : List Tok) (xb : Nat → Prop) (W : World) (v : Value) (σ : RS) (r : Ending) (Y : World) : Prop :=
  RX b xb W Y ∧ ((σ.code = 0 ∧ r = .returned v ∧ Cd Y b g cap dv ts xb σ) ∨ (σ.code ≠ 0 ∧ r = .panicked [{ v := refusalV σ.code σ.pos, recovered := false }]))
def CdOk (b g cap : Nat) (dv : Value) (ts : List Tok) (xb : Nat → Prop) (W : World) (v : Value) (σ : RS) (r : Ending) (Y : World) : Prop :=
  r = .returned v ∧ Hid (Cd Y b g cap dv ts xb σ) ∧ Hid (RX b xb W Y)
def CdBad (b : Nat) (xb : Nat → Prop) (W : World) (c p : Int) (r : Ending) (Y : World) : Prop :=
  r = .panicked [{ v := refusalV c p, recovered := false }] ∧ Hid (RX b xb W Y)
theorem CdRet.ok {b g cap : Nat} {dv : Value} {ts : List Tok} {xb : Nat → Prop} {W : World} {v : Value} {σ : RS} {r : Ending} {Y : World} (h : CdRet b g cap dv ts xb W v σ r Y) (hc : σ.code = 0) : CdOk b g cap dv ts xb W v σ r Y := by
  obtain ⟨hk, h | h⟩ := h
  · exact ⟨h.2.1, Lib.hid h.2.2, Lib.hid hk⟩
  · exact absurd hc h.1
theorem CdRet.bad {b g cap : Nat} {dv : Value} {ts : List Tok} {xb : Nat → Prop} {W : World} {v : Value} {σ : RS} {r : Ending} {Y : World} (h : CdRet b g cap dv ts xb W v σ r Y) (hc : σ.code ≠ 0) : CdBad b xb W σ.code σ.pos r Y := by
  obtain ⟨hk, h | h⟩ := h
  · exact absurd h.1 hc
  · exact ⟨h.2, Lib.hid hk⟩
theorem CdOk.ret {b g cap : Nat} {dv : Value} {ts : List Tok} {xb : Nat → Prop} {W : World} {v : Value} {σ : RS} {r : Ending} {Y : World} (h : CdOk b g cap dv ts xb W v σ r Y) (hc : σ.code = 0) : CdRet b g cap dv ts xb W v σ r Y :=
  ⟨h.2.2.out, .inl ⟨hc, h.1, h.2.1.out⟩⟩
theorem CdBad.ret {b g cap : Nat} {dv : Value} {ts : List Tok} {xb : Nat → Prop} {W : World} {v : Value} {σ τ : RS} {r : Ending} {Y : World} (h : CdBad b xb W σ.code σ.pos r Y) (hc : σ.code ≠ 0) (hs : Stays σ τ) : CdRet b g cap dv ts xb W v τ r Y := by
  obtain ⟨h1, h2⟩ := hs hc
  exact ⟨h.2.out, .inr ⟨by rw [h1]; exact hc, by rw [h1, h2]; exact h.1⟩⟩
/-- a way out by a panic, where the walk of a region wants a step -/
theorem dummyAny {X : Prop} (P : Program) (w : World) (hx : X) : wpAny P Region.Mode.any #[] (fun _ _ _ => True) 0 #[] { tmps := #[], defers := [] } w → X := fun _ => hx
end Go.Proofs.YtlbhlncipajapaaGreatDoor
namespace Go.Proofs.YtlbhlncipajapaaGreatDoor
open Go.RowKit Lx
set_option linter.unusedVariables false

set_option maxHeartbeats 4000000 in
theorem refusal_any (b g cap : Nat) (dv : Value) (ts : List Tok) (xb : Nat → Prop) (σ : RS) (e : Int) (W : World) (h : Hid (Cd W b g cap dv ts xb σ)) :
    Calls Tryz.prog 60 #[.pointer (some ⟨b, 0, none⟩), .int .i64 e] W fun r Y => r = .returned (.agg #[.int .i64 e, .int .i64 ((tokL ts σ.at_).at_ : Int)]) ∧ Below W.heap.size W Y := by
  obtain ⟨o, c, ⟨c0, c1, c2, c3, fr⟩, hx⟩ := h.out.cells
  obtain ⟨t0, t1, t2, t3⟩ := h.out.tok
  have hl := h.out.at_
  obtain ⟨n, hnn⟩ : ∃ n, n = ts.length - σ.at_ := ⟨_, rfl⟩
  obtain ⟨a4, haa⟩ : ∃ a4, a4 = σ.at_ * 4 := ⟨_, rfl⟩
  obtain ⟨p, hp⟩ : ∃ p, p = (tokL ts σ.at_).at_ := ⟨_, rfl⟩
  rw [← hnn, ← haa] at c0
  rw [← hp, ← haa] at t3
  rw [← hp]
  have hgs : g < W.heap.size := by have := h.out.lt; have := h.out.size; omega
  have hbs : b < W.heap.size := h.out.size
  have k0 : (0 : Int) < (n : Int) := by omega
  have B0 : Hid (Below W.heap.size W (W.alloc (.cells #[.int .i64 0, .int .i64 0] 75))) := Lib.hid ((Below.refl _ _).alloc (Nat.le_refl _) _)
  clear hnn haa hp t0 t1 t2 hl hx c1 c2 c3 fr
  go_enter Tryz.func60, Tryz.ntmps60
  go_wp2_with fail
  have r0 : (W.alloc (.cells #[.int .i64 e, .int .i64 (p : Int)] 75)).cell? ⟨W.heap.size, 0, none⟩ = some (.int .i64 e) := by rw [World.cell?_alloc_new]; rfl
  have r1 : (W.alloc (.cells #[.int .i64 e, .int .i64 (p : Int)] 75)).cell? ⟨W.heap.size, 1, none⟩ = some (.int .i64 (p : Int)) := by rw [World.cell?_alloc_new]; rfl
  exact bodyPost_ret (v := .agg #[.int .i64 e, .int .i64 (p : Int)]) (by simp [results, Tryz.results60, go_sem, r0, r1]) rfl ⟨rfl, (Below.refl _ _).alloc (Nat.le_refl _) _⟩
theorem box_four (w : World) (a b c d : Value) (T : TypeId) (o : Obj) : (((w.alloc (.cells #[a, b, c, d] T)).alloc o).cell? ⟨w.heap.size, 0, none⟩ = some a ∧ ((w.alloc (.cells #[a, b, c, d] T)).alloc o).cell? ⟨w.heap.size, 1, none⟩ = some b ∧ ((w.alloc (.cells #[a, b, c, d] T)).alloc o).cell? ⟨w.heap.size, 2, none⟩ = some c ∧ ((w.alloc (.cells #[a, b, c, d] T)).alloc o).cell? ⟨w.heap.size, 3, none⟩ = some d) ∧ True := by
  have hb : Below (w.alloc (.cells #[a, b, c, d] T)).heap.size (w.alloc (.cells #[a, b, c, d] T)) ((w.alloc (.cells #[a, b, c, d] T)).alloc o) := (Below.refl _ _).alloc (Nat.le_refl _) _
  have e : ∀ i, ((w.alloc (.cells #[a, b, c, d] T)).alloc o).cell? ⟨w.heap.size, i, none⟩ = (w.alloc (.cells #[a, b, c, d] T)).cell? ⟨w.heap.size, i, none⟩ := fun i => hb.cell (p := ⟨w.heap.size, i, none⟩) (by simp)
  simp only [e, World.cell?_alloc_new]
  exact ⟨⟨rfl, rfl, rfl, rfl⟩, trivial⟩
/-- the token that is taken -/
def TakeRet (b g cap : Nat) (dv : Value) (ts : List Tok) (xb : Nat → Prop) (W : World) (σ : RS) (r : Ending) (Y : World) : Prop := r = .returned (tokV (tokL ts σ.at_)) ∧ Hid (Cd Y b g cap dv ts xb (stepS σ)) ∧ Hid (RX b xb W Y)
set_option maxHeartbeats 4000000 in
theorem take_any (b g cap : Nat) (dv : Value) (ts : List Tok) (xb : Nat → Prop) (σ : RS) (W : World) (h : Hid (Cd W b g cap dv ts xb σ)) (hk : (tokL ts σ.at_).kind ≠ 5) :
    Calls Tryz.prog 61 #[.pointer (some ⟨b, 0, none⟩)] W fun r Y => TakeRet b g cap dv ts xb W σ r Y := by
  obtain ⟨o, c, ⟨c0, c1, c2, c3, fr⟩, hx⟩ := h.out.cells
  obtain ⟨t0, t1, t2, t3⟩ := h.out.tok
  have hl := h.out.at_
  have hcp := h.out.cp
  have hnx := h.out.ends.next h.out.at_ hk
  have HK := Lib.hid hk
  have f0 := fr 0
  unfold TakeRet tokV
  obtain ⟨kd, hkd⟩ : ∃ kd, kd = (tokL ts σ.at_).kind := ⟨_, rfl⟩
  obtain ⟨tx, htx⟩ : ∃ tx, tx = (tokL ts σ.at_).text := ⟨_, rfl⟩
  obtain ⟨tv, htv⟩ : ∃ tv, tv = (tokL ts σ.at_).v := ⟨_, rfl⟩
  obtain ⟨p, hp⟩ : ∃ p, p = (tokL ts σ.at_).at_ := ⟨_, rfl⟩
  rw [← hkd] at t0
  rw [← htx] at t1
  rw [← htv] at t2
  rw [← hp] at t3
  rw [← hkd, ← htx, ← htv, ← hp]
  have HS := Lib.hid (show ts.length - σ.at_ - 1 = ts.length - (σ.at_ + 1) ∧ cap - σ.at_ - 1 = cap - (σ.at_ + 1) ∧ σ.at_ * 4 + 4 = (σ.at_ + 1) * 4 by omega)
  obtain ⟨n, hnn⟩ : ∃ n, n = ts.length - σ.at_ := ⟨_, rfl⟩
  obtain ⟨m, hmm⟩ : ∃ m, m = cap - σ.at_ := ⟨_, rfl⟩
  obtain ⟨a4, haa⟩ : ∃ a4, a4 = σ.at_ * 4 := ⟨_, rfl⟩
  have k0 : (0 : Int) < (n : Int) := by omega
  have k1 : (1 : Int) ≤ (n : Int) := by omega
  have k2 : (n : Int) ≤ (m : Int) := by omega
  have k3 : ¬ m = 1 := by omega
  rw [← hnn, ← hmm, ← haa] at c0
  rw [← haa] at t0 t1 t2 t3
  have HE := Lib.hid (show n = _ ∧ m = _ ∧ a4 = _ from ⟨hnn, hmm, haa⟩)
  have hgs : g < W.heap.size := by have := h.out.lt; have := h.out.size; omega
  have hbs : b < W.heap.size := h.out.size
  clear hnn hmm haa hp hkd htx htv hl hx c1 c2 c3 fr hcp hnx hk
  go_enter Tryz.func61, Tryz.ntmps61
  go_wp2_with fail
  obtain ⟨W1, hW1⟩ : ∃ W1, W1 = W.setCell ⟨b, 0, none⟩ (.slice (some ⟨g, a4 + 4, none⟩) (n - 1) (m - 1)) := ⟨_, rfl⟩
  have HC : Hid (Cd W1 b g cap dv ts xb (stepS σ)) := Lib.hid (by
    have := h.out.setAt HK.out
    obtain ⟨e1, e2, e3⟩ := HE.out
    obtain ⟨f1, f2, f3⟩ := HS.out
    rw [hW1, e1, e2, e3, f1, f2, f3]; exact this)
  have HR : Hid (RX b xb W W1) := Lib.hid (by rw [hW1]; exact RX.set h.out.xnb 0 _)
  have hs : W.heap.size = W1.heap.size := by rw [hW1]; simp
  rw [← hW1]
  have HB := Lib.hid (((Below.refl W1.heap.size W1).alloc (Nat.le_refl _) (.cells #[.int .i64 (kd : Int), .string (str tx), .int .i64 tv, .int .i64 (p : Int)] 43)).alloc (by simp) (.cells #[.int .i64 (kd : Int), .string (str tx), .int .i64 tv, .int .i64 (p : Int)] 43))
  have hb1 : b ≤ W1.heap.size := by omega
  clear hW1
  rw [hs]
  obtain ⟨⟨r0, r1, r2, r3⟩, -⟩ := box_four W1 (.int .i64 (kd : Int)) (.string (str tx)) (.int .i64 tv) (.int .i64 (p : Int)) 43 (.cells #[.int .i64 (kd : Int), .string (str tx), .int .i64 tv, .int .i64 (p : Int)] 43)
  exact bodyPost_ret (v := .agg #[.int .i64 (kd : Int), .string (str tx), .int .i64 tv, .int .i64 (p : Int)]) (by simp [results, Tryz.results61, go_sem, r0, r1, r2, r3]) rfl ⟨rfl, Lib.hid (HC.out.below HB.out), Lib.hid (HR.out.trans (RX.of_below HB.out hb1 HC.out.xlt))⟩
end Go.Proofs.YtlbhlncipajapaaGreatDoor
namespace Go.Proofs.YtlbhlncipajapaaGreatDoor
open Go.RowKit Lx
set_option linter.unusedVariables false

theorem isS_text {ts : List Tok} {s : List UInt8} {σ : RS} (ht : TxOk ts) (hs : s ∈ sgL) (hc : σ.code = 0) : isS ts s σ = ((tokL ts σ.at_).text == s) := by
  unfold isS
  rw [decide_eq_true hc, Bool.true_and]
  by_cases h3 : (tokL ts σ.at_).kind = 3
  · rw [decide_eq_true h3]; simp
  · by_cases h4 : (tokL ts σ.at_).kind = 4
    · rw [decide_eq_true h4]; simp
    · have := ht σ.at_ h3 h4 s hs
      rw [decide_eq_false h3, decide_eq_false h4, beq_false_of_ne this]; rfl
/-- is the next token one of these? -/
def fitsB (ts : List Tok) (L : List (List UInt8)) (σ : RS) : Bool := L.any fun s => isS ts s σ
/-- strings in a block -/
def StrsIn (W : World) (k : Nat) (L : List (List UInt8)) : Prop := ∀ j s, L[j]? = some s → W.cell? ⟨k, j, none⟩ = some (.string (str s))
theorem str_inj {a b : List UInt8} (h : str a = str b) : a = b := by
  have := congrArg (fun x : ByteArray => x.data.toList) h
  simpa [str_data] using this
theorem contains_any {ts : List Tok} {L : List (List UInt8)} {σ : RS} (ht : TxOk ts) (hL : ∀ s ∈ L, s ∈ sgL) (hc : σ.code = 0) : Lib.containsS (L.map str) (str (tokL ts σ.at_).text) = fitsB ts L σ := by
  have h : Lib.containsS (L.map str) (str (tokL ts σ.at_).text) = true ↔ fitsB ts L σ = true := by
    rw [Lib.containsS_iff]
    unfold fitsB
    rw [List.any_eq_true]
    constructor
    · intro h
      obtain ⟨s, h1, h2⟩ := List.mem_map.1 h
      exact ⟨s, h1, by rw [isS_text ht (hL s h1) hc]; simp [str_inj h2]⟩
    · rintro ⟨s, h1, h2⟩
      rw [isS_text ht (hL s h1) hc] at h2
      exact List.mem_map.2 ⟨s, h1, by rw [eq_of_beq h2]⟩
  cases h1 : Lib.containsS (L.map str) (str (tokL ts σ.at_).text) <;> cases h2 : fitsB ts L σ <;> simp_all
set_option maxHeartbeats 4000000 in
theorem fits_any (b g cap : Nat) (dv : Value) (ts : List Tok) (xb : Nat → Prop) (σ : RS) (k n : Nat) (L : List (List UInt8)) (W : World) (h : Hid (Cd W b g cap dv ts xb σ)) (hc : σ.code = 0) (hL : ∀ s ∈ L, s ∈ sgL) (hn : n = L.length) (hn9 : (n : Int) ≤ 9) (hk : Hid (StrsIn W k L)) :
    Calls Tryz.prog 49 #[.pointer (some ⟨b, 0, none⟩), .slice (some ⟨k, 0, none⟩) n n] W fun r Y => r = .returned (.bool (fitsB ts L σ)) ∧ Y = W := by
  obtain ⟨o, c, ⟨c0, c1, c2, c3, fr⟩, hx⟩ := h.out.cells
  obtain ⟨t0, t1, t2, t3⟩ := h.out.tok
  have hl := h.out.at_
  have C : Hid (∀ w, w = W → Calls Tryz.prog 74 #[.slice (some ⟨k, 0, none⟩) n n, .string (str (tokL ts σ.at_).text)] w fun e w' => e = .returned (.bool (fitsB ts L σ)) ∧ w' = w) := Lib.hid (by
    rintro w rfl
    have := Tryz.slices_Contains_string k 0 n n (L.map str) (str (tokL ts σ.at_).text) w (by simp; omega) (by omega) (fun j hj => by
      rw [List.length_map] at hj
      rw [Nat.zero_add, hk.out j L[j] (List.getElem?_eq_getElem hj), List.getD_eq_getElem?_getD, List.getElem?_map, List.getElem?_eq_getElem hj]; rfl)
    rw [List.take_of_length_le (by simp; omega), contains_any h.out.tx hL hc] at this
    exact this)
  obtain ⟨B, hB⟩ : ∃ B, B = fitsB ts L σ := ⟨_, rfl⟩
  rw [← hB] at C ⊢
  obtain ⟨m, hmm⟩ : ∃ m, m = ts.length - σ.at_ := ⟨_, rfl⟩
  obtain ⟨a4, haa⟩ : ∃ a4, a4 = σ.at_ * 4 := ⟨_, rfl⟩
  obtain ⟨tx, htx⟩ : ∃ tx, tx = (tokL ts σ.at_).text := ⟨_, rfl⟩
  rw [← hmm, ← haa] at c0
  rw [← htx, ← haa] at t1
  rw [← htx] at C
  have k0 : (0 : Int) < (m : Int) := by omega
  clear hmm haa htx t0 t2 t3 hl hx c1 c2 c3 fr hB hL hc hn hk hn9
  go_enter Tryz.func49, Tryz.ntmps49
  go_wp2_with (go_at_call 74; (with_reducible refine (C.out _ rfl).mono ?_); rintro e w1 ⟨rfl, rfl⟩)
  go_ret
  exact ⟨rfl, rfl⟩
/-- one text in a new block -/
theorem strs_new (W : World) (L : List (List UInt8)) (T : TypeId) : StrsIn (W.alloc (.cells (L.map fun s => Value.string (str s)).toArray T)) W.heap.size L := fun j s hj => by
  rw [World.cell?_alloc_new]
  simp [hj]
def TakesRet (b g cap : Nat) (dv : Value) (ts : List Tok) (xb : Nat → Prop) (W : World) (s : List UInt8) (σ : RS) (r : Ending) (Y : World) : Prop := r = .returned (.bool (isS ts s σ)) ∧ Hid (Cd Y b g cap dv ts xb (tookS ts s σ)) ∧ Hid (RX b xb W Y)
set_option maxHeartbeats 4000000 in
theorem takes_any (b g cap : Nat) (dv : Value) (ts : List Tok) (xb : Nat → Prop) (σ : RS) (s : List UInt8) (W : World) (h : Hid (Cd W b g cap dv ts xb σ)) (hc : σ.code = 0) (hs : s ∈ sgL) :
    Calls Tryz.prog 62 #[.pointer (some ⟨b, 0, none⟩), .string (str s)] W fun r Y => TakesRet b g cap dv ts xb W s σ r Y := by
  obtain ⟨W1, hW1⟩ : ∃ W1, W1 = W.alloc (.cells #[.string (str s)] 9) := ⟨_, rfl⟩
  have hb1 : Below W.heap.size W W1 := by rw [hW1]; exact (Below.refl _ _).alloc (Nat.le_refl _) _
  have H1 : Hid (Cd W1 b g cap dv ts xb σ) := Lib.hid (h.out.below hb1)
  have F : Hid (Calls Tryz.prog 49 #[.pointer (some ⟨b, 0, none⟩), .slice (some ⟨W.heap.size, 0, none⟩) 1 1] W1 fun r Y => r = .returned (.bool (isS ts s σ)) ∧ Y = W1) := Lib.hid (by
    have := fits_any b g cap dv ts xb σ W.heap.size 1 [s] W1 H1 hc (by simpa using hs) rfl (by decide) (Lib.hid (by rw [hW1]; exact strs_new W [s] _))
    unfold fitsB at this
    simpa using this)
  have HB := Lib.hid (RX.of_below hb1 (Nat.le_of_lt h.out.size) h.out.xlt)
  clear hb1
  cases hi : isS ts s σ with
  | true =>
    have T := Lib.hid (take_any b g cap dv ts xb σ W1 H1 (isS_kind hi).1)
    rw [hi] at F
    have e : tookS ts s σ = stepS σ := by unfold tookS; rw [if_pos hi]
    unfold TakesRet
    rw [e, hi]
    clear hi e
    go_enter Tryz.func62, Tryz.ntmps62
    go_wp2_with (first
      | (go_at_call 49; rw [← hW1]; clear hW1; (with_reducible refine F.out.mono ?_); rintro e w1 ⟨rfl, rfl⟩)
      | (go_at_call 61; (with_reducible refine T.out.mono ?_); rintro e w2 ⟨rfl, hr, hk⟩))
    go_ret
    exact ⟨rfl, hr, Lib.hid (HB.out.trans hk.out)⟩
  | false =>
    rw [hi] at F
    have e : tookS ts s σ = σ := by unfold tookS; rw [hi]; rfl
    unfold TakesRet
    rw [e, hi]
    clear hi e
    go_enter Tryz.func62, Tryz.ntmps62
    go_wp2_with (go_at_call 49; rw [← hW1]; clear hW1; (with_reducible refine F.out.mono ?_); rintro e w1 ⟨rfl, rfl⟩)
    go_ret
    exact ⟨rfl, H1, HB⟩
end Go.Proofs.YtlbhlncipajapaaGreatDoor
