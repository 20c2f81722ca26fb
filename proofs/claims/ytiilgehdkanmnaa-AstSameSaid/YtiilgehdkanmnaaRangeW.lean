/- A range over a function whose iterator writes cells of its own between two rounds. -/
import Derived.Test.YtiilgehdkanmnaaAstDeep
import Derived.RangeFuncNested
namespace Go.Proofs.Ytiilgehdkanmnaa
open Go.RowKit Go.Shelf

/-- what J says stays true where one block from B on is turned that holds no cells, or none of the caller's own -/
def AbidesW {β : Type} (mine : World → Nat → Prop) (B : Nat) (J : β → World → Prop) : Prop :=
  ∀ s X Y row, J s X → X.grownBy Y row → (∀ r, row = some r → B ≤ r ∧ ∃ o : Obj, X.heap[r]? = some o ∧ (o.isCells = false ∨ ¬ mine X r)) → J s Y
theorem AbidesW.alloc {β : Type} {mine : World → Nat → Prop} {B : Nat} {J : β → World → Prop} (h : AbidesW mine B J) {s : β} {X : World} (o : Obj) (hs : J s X) : J s (X.alloc o) :=
  h s X _ none hs (World.grownBy_alloc X o none) (fun r e => by cases e)
theorem AbidesW.put {β : Type} {mine : World → Nat → Prop} {B : Nat} {J : β → World → Prop} (h : AbidesW mine B J) {s : β} {X : World} {l : Nat} {o : Obj} (o' : Obj) (hs : J s X) (hB : B ≤ l) (hl : X.heap[l]? = some o) (ho : o.isCells = false) : J s (X.putObj l o') :=
  h s X _ (some l) hs (grownBy_putObj' X l o') (fun r e => by cases e; exact ⟨hB, o, hl, .inl ho⟩)
/-- the word of an iterator that writes what it has laid -/
def SeqW {α : Type} (F : Fence) (n : Nat) (P : Program) (g : Nat) (lb : Array Value) (encs : α → Array Value) (Kp : World → World → Prop) (mine : World → Nat → Prop) (S Sp : List α → Prop) (N : Nat) (w : World) : Prop :=
  ∀ (l : Nat) (J Jx : List α → World → Prop) (W : World), Below w.heap.size w W → AbidesW mine W.heap.size J → AbidesW mine W.heap.size Jx →
    (∀ pre x X, J pre X → pre.length < N → YieldAt F (n - 1) P l (encs x) X fun r Y =>
      (r = .returned (.bool true) ∧ J (pre ++ [x]) Y ∧ Kp X Y) ∨ (r = .returned (.bool false) ∧ Jx (pre ++ [x]) Y)) →
    J [] W → CallsIn F n P g (#[.func (.yield l) #[] #[]] ++ lb) W fun r Y => (∃ v, r = .returned v) ∧ ((∃ xs, S xs ∧ J xs Y) ∨ (∃ pre, Sp pre ∧ Jx pre Y))
variable {F : Fence} {n : Nat} {P : Program} {w : World}
set_option maxHeartbeats 400000 in
theorem wpIn_range_writes {α : Type} {g : Operand} {ps : Array Tmp} {assign body : Code} {Q : Exit → Act → World → Prop} {a : Act}
    (hro : F.round = none) (h1 : 1 ≤ n) {gf : Nat} {lb : Array Value} (hg : a.eval g = .func (.func gf) #[] lb) (hFg : F.fn gf) (eg : ∀ args w, (callFunc gf args).run P w = .ok (.enter gf args) w)
    {encs : α → Array Value} {Kp : World → World → Prop} {mine : World → Nat → Prop} {S Sp : List α → Prop} {N : Nat} (hseq : SeqW F (n - 1) P gf lb encs Kp mine S Sp N w)
    (hKt : ∀ {A B C : World}, Kp A B → Kp B C → Kp A C) (hKb : ∀ (W : World) (l : Nat) (o o' : Obj), w.heap.size ≤ l → W.heap[l]? = some o → o.isCells = false → o.isWalk = false → Kp W (W.putObj l o')) (hps : ∀ x, (encs x).size = ps.size)
    (I : List α → World → Prop) (Ix : Code → List α → World → Prop) (hI : AbidesW mine w.heap.size I) (hIx : ∀ c, AbidesW mine w.heap.size (Ix c)) (h0 : I [] w) (a₁ : α → Act)
    (hassign : ∀ (l : Nat) (x : α) (W : World) (K : Act → World → Prop), K (a₁ x) W →
      assign.wpIn (F.inRound l) (n - 1 - 1) P (Exit.then K (fun _ _ _ => False)) { tmps := (ps.zip (encs x)).foldl (fun t (p, v) => t.setIfInBounds p v) a.tmps, defers := [] } W)
    (hbody : ∀ (l : Nat) (pre : List α) (x : α) (W : World), I pre W → pre.length < N → body.wpIn (F.inRound l) (n - 1 - 1) P (ownPostG w.heap.size Kp I Ix (pre ++ [x]) W) (a₁ x) W)
    (hdone : ∀ (D : Nat) (xs : List α) (W : World), w.heap.size ≤ D → S xs → I xs W → W.heap[D]? = some (.deferred (some [])) → Q .normal { a with defers := { target := .collected D, args := #[] } :: a.defers } W)
    (hstop : ∀ (D : Nat) (c : Code) (pre : List α) (W : World), w.heap.size ≤ D → Sp pre → Ix c pre W → W.heap[D]? = some (.deferred (some [])) → c.wpIn F n P Q { a with defers := { target := .collected D, args := #[] } :: a.defers } W) :
    (Code.rangeFunc g ps assign body).wpIn F n P Q a w := by
  refine wpIn_rangeFunc fun fn hfn => ?_
  rw [hro]
  -- the two blocks that the statement lays: D for deferred calls, L for the loop's record
  obtain ⟨D, hD⟩ : ∃ D, D = w.heap.size := ⟨_, rfl⟩
  obtain ⟨R, hR⟩ : ∃ R : LoopState → Option Code → Loop, R = fun st pe => { state := st, pending := pe, fn, tmps := a.tmps, params := ps, assign, body, defers := D } := ⟨_, rfl⟩
  obtain ⟨V, hV⟩ : ∃ V, V = (w.alloc (.deferred (some []))).alloc (.loop (R .ready none)) := ⟨_, rfl⟩
  have z1 : (w.alloc (.deferred (some []))).heap.size = D + 1 := by rw [World.size_alloc, hD]
  have z2 : V.heap.size = D + 2 := by rw [hV, World.size_alloc, z1]
  have vD : V.heap[D]? = some (.deferred (some [])) := by rw [hV, heap_old _ _ _ (by rw [z1]; omega), hD]; exact World.alloc_heap_new w _
  have vL : V.heap[D + 1]? = some (.loop (R .ready none)) := by
    have := World.alloc_heap_new (w.alloc (.deferred (some []))) (.loop (R .ready none))
    rw [z1] at this; rw [hV]; exact this
  have vB : Below w.heap.size w V := by rw [hV]; exact ((Below.refl _ w).alloc (Nat.le_refl _) _).alloc (by rw [z1, hD]; omega) _
  have vI : I [] V := by rw [hV]; exact hI.alloc _ (hI.alloc _ h0)
  -- a turn that the iterator may make leaves both as they lie
  have far : ∀ {X Y : World} {row : Option Nat} {k : Nat} {o : Obj}, k < D + 2 → X.heap[k]? = some o → X.grownBy Y row → (∀ r, row = some r → V.heap.size ≤ r ∧ ∃ o : Obj, X.heap[r]? = some o ∧ (o.isCells = false ∨ ¬ mine X r)) → Y.heap[k]? = some o := by
    intro X Y row k o hk ho hg' hr
    refine (hg'.block k (lt_of_heap ho) fun e => ?_).trans ho
    have := (hr k e.symm).1; omega
  have nearer : ∀ {X : World} {row : Option Nat}, (∀ r, row = some r → V.heap.size ≤ r ∧ ∃ o : Obj, X.heap[r]? = some o ∧ (o.isCells = false ∨ ¬ mine X r)) → ∀ r, row = some r → w.heap.size ≤ r ∧ ∃ o : Obj, X.heap[r]? = some o ∧ (o.isCells = false ∨ ¬ mine X r) :=
    fun hr r e => ⟨by have := (hr r e).1; omega, (hr r e).2⟩
  have hcall := hseq (D + 1)
    (fun pre W => I pre W ∧ W.heap[D + 1]? = some (.loop (R .ready none)) ∧ W.heap[D]? = some (.deferred (some [])))
    (fun pre W => ∃ c, Ix c pre W ∧ W.heap[D + 1]? = some (.loop (R .done (some c))) ∧ W.heap[D]? = some (.deferred (some [])))
    V vB
    (fun s X Y row hs hg' hr => ⟨hI s X Y row hs.1 hg' (nearer hr), far (by omega) hs.2.1 hg' hr, far (by omega) hs.2.2 hg' hr⟩)
    (fun s X Y row hs hg' hr => by
      obtain ⟨c, hc, hl, hk⟩ := hs
      exact ⟨c, hIx c s X Y row hc hg' (nearer hr), far (by omega) hl hg' hr, far (by omega) hk hg' hr⟩)
    (by
      rintro pre x X ⟨hi, hl, hk⟩ hlen
      have hlt := lt_of_heap hl
      have hy := run_yield (P := P) (args := encs x) hl (by rw [hR]; exact hps x)
      rw [hR] at hy
      refine ⟨fn, _, assign, body, hy, roundIn_of_wpIn hfn (hassign _ x X _ ?_)⟩
      clear hy
      refine ⟨_, run_beginRound hl (by rw [hR]), ?_⟩
      obtain ⟨Z, hZ⟩ : ∃ Z, Z = X.putObj (D + 1) (.loop { R .ready none with state := .busy }) := ⟨_, rfl⟩
      have zL : Z.heap[D + 1]? = some (.loop { R .ready none with state := .busy }) := by rw [hZ]; exact World.putObj_heap_same hlt
      have zD : Z.heap[D]? = some (.deferred (some [])) := by rw [hZ]; exact (World.putObj_heap_other (by omega)).trans hk
      have zK : Kp X Z := by rw [hZ]; exact hKb _ _ _ _ (by omega) hl rfl rfl
      have zI : I pre Z := by rw [hZ]; exact hI.put _ hi (by omega) hl rfl
      rw [← hZ]
      refine wpIn_mono (hbody _ pre x Z zI hlen) ?_
      have ends : ∀ (jump : Option Code) (W3 : World), KeepsFrom w.heap.size Z W3 →
          (Instr.endRound (D + 1) jump).run P W3 = .ok (.bool jump.isNone) (W3.putObj (D + 1) (.loop (R (if jump.isNone then .ready else .done) jump))) ∧
          W3.heap[D + 1]? = some (.loop { R .ready none with state := .busy }) ∧
          (W3.putObj (D + 1) (.loop (R (if jump.isNone then .ready else .done) jump))).heap[D + 1]? = some (.loop (R (if jump.isNone then .ready else .done) jump)) ∧
          (W3.putObj (D + 1) (.loop (R (if jump.isNone then .ready else .done) jump))).heap[D]? = some (.deferred (some [])) := fun jump W3 hk3 => by
        have hl3 := hk3.same _ _ (by omega) zL rfl
        have he := run_endRound (P := P) jump hl3
        rw [hR] at he ⊢
        exact ⟨he, by rw [hR] at hl3; exact hl3, World.putObj_heap_same (Array.getElem?_eq_some_iff.1 hl3).1, (World.putObj_heap_other (by omega)).trans (hk3.same _ _ (by omega) zD rfl)⟩
      rintro q a3 W3 hp
      cases q with
      | normal =>
        obtain ⟨k1, k2, k3⟩ := hp
        obtain ⟨e1, e2, e3, e4⟩ := ends none W3 k1
        exact ⟨_, _, e1, .inl ⟨rfl, ⟨hI.put _ k3 (by omega) e2 rfl, e3, e4⟩, hKt (hKt zK k2) (hKb _ _ _ _ (by omega) e2 rfl rfl)⟩⟩
      | ret =>
        obtain ⟨k1, k2⟩ := hp
        obtain ⟨e1, e2, e3, e4⟩ := ends (some .ret) W3 k1
        exact ⟨_, _, e1, .inr ⟨rfl, .ret, (hIx _).put _ k2 (by omega) e2 rfl, e3, e4⟩⟩
      | exit id =>
        obtain ⟨k1, k2⟩ := hp
        obtain ⟨e1, e2, e3, e4⟩ := ends (some (.exit id)) W3 k1
        exact ⟨_, _, e1, .inr ⟨rfl, .exit id, (hIx _).put _ k2 (by omega) e2 rfl, e3, e4⟩⟩
      | goto t =>
        obtain ⟨k1, k2⟩ := hp
        obtain ⟨e1, e2, e3, e4⟩ := ends (some (.goto t)) W3 k1
        exact ⟨_, _, e1, .inr ⟨rfl, .goto t, (hIx _).put _ k2 (by omega) e2 rfl, e3, e4⟩⟩
      | panic ch => exact hp.elim
      | outgrown => exact hp.elim)
    ⟨vI, vL, vD⟩
  refine ⟨D + 1, [{ target := .collected D, args := #[] }], V, { target := .fn (.func gf) lb, args := #[.func (.yield (D + 1)) #[] #[]] }, V, gf, #[.func (.yield (D + 1)) #[] #[]] ++ lb, V, ?_, ?_, ?_, ?_, fun _ => h1, ?_⟩
  · rw [hV, hR, hD]; exact run_enterLoop_outer _ _ _ _ _
  · simp only [resolve, hg]
    simp [go_sem]
  · intro f' hf'
    simp [Target.leads] at hf'
    subst hf'
    exact hFg
  · simp [invoke, go_sem, eg]
  · refine hcall.mono ?_
    rintro r Y ⟨⟨v, rfl⟩, h | h⟩
    · obtain ⟨xs, hS, hi, hl, hk⟩ := h
      exact ⟨none, _, by have := run_endLoop (P := P) hl (by rw [hR]; simp); rw [hR] at this; exact this, hdone _ xs _ (by omega) hS (hI.put _ hi (by omega) hl rfl) ((World.putObj_heap_other (by omega)).trans hk)⟩
    · obtain ⟨pre, hSp, c, hi, hl, hk⟩ := h
      exact ⟨some c, _, by have := run_endLoop (P := P) hl (by rw [hR]; simp); rw [hR] at this; exact this, hstop _ c pre _ (by omega) hSp ((hIx c).put _ hi (by omega) hl rfl) ((World.putObj_heap_other (by omega)).trans hk)⟩
end Go.Proofs.Ytiilgehdkanmnaa
