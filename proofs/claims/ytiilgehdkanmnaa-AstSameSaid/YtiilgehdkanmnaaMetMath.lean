/- The tree of an expression, and the order in which its numbers are met first. -/
import Derived.Test.YtiilgehdkanmnaaAstMayAt
namespace Go.Proofs.Ytiilgehdkanmnaa

/-- the numbers of the parts of the expression at a number -/
def partsN (p : Pr) (e : Nat) : List Nat := match p.exprs[e]? with
  | some x => (partsE x).map Int.toNat
  | none => []
def treeN (p : Pr) : Nat → Nat → List Nat
  | 0, _ => []
  | f + 1, e => e :: (partsN p e).flatMap (treeN p f)
/-- the tree of an expression -/
def tree (p : Pr) (e : Nat) : List Nat := treeN p (e + 1) e
/-- all parts stand ahead -/
def Ahead (p : Pr) : Prop := ∀ e, ∀ z ∈ partsN p e, z < e
theorem treeN_enough {p : Pr} (h : Ahead p) : ∀ (f e : Nat), e < f → treeN p f e = tree p e
  | 0, e, he => by omega
  | f + 1, e, he => by
    show e :: _ = e :: _
    congr 1
    rw [List.flatMap_def, List.flatMap_def]
    congr 1
    apply List.map_congr_left
    intro z hz
    have hz' := h e z hz
    rw [treeN_enough h f z (by omega)]
    by_cases hf : e = f
    · subst hf; exact (treeN_enough h e z hz').symm
    · exact (treeN_enough h e z hz').symm
termination_by f => f
theorem tree_eq {p : Pr} (h : Ahead p) (e : Nat) : tree p e = e :: (partsN p e).flatMap (tree p) := by
  show e :: _ = e :: _
  congr 1
  rw [List.flatMap_def, List.flatMap_def]
  congr 1
  apply List.map_congr_left
  intro z hz
  exact treeN_enough h e z (h e z hz)
/-- what of a list is met for the first time -/
def fresh : List Nat → List Nat → List Nat
  | _, [] => []
  | s, a :: l => if a ∈ s then fresh s l else a :: fresh (a :: s) l
theorem fresh_seen : ∀ (t l s : List Nat), (∀ a ∈ t, a ∈ s) → fresh s (t ++ l) = fresh s l
  | [], l, s, _ => rfl
  | a :: t, l, s, h => by
    rw [List.cons_append]
    show (if a ∈ s then fresh s (t ++ l) else _) = _
    rw [if_pos (h a (List.mem_cons_self ..)), fresh_seen t l s fun b hb => h b (List.mem_cons_of_mem _ hb)]
/-- what is left to be met: the trees of what stands on the stack (its top first) -/
def still (p : Pr) (s l : List Nat) : List Nat := fresh s (l.flatMap (tree p))
/-- what is met, as told by a stack: of a number that is met and stands on the stack all is met, but for what stands above it -/
def MetOk (p : Pr) (s l : List Nat) : Prop := ∀ a x c, l = a ++ x :: c → ∀ m ∈ s, m ≤ x → ∀ z ∈ tree p m, z ∈ s ∨ z ∈ a.flatMap (tree p)
theorem metOk_one (p : Pr) (e : Nat) : MetOk p [] [e] := fun _ _ _ _ m hm => by cases hm
theorem met_skip {p : Pr} {s l : List Nat} {n : Nat} (h : MetOk p s (n :: l)) (hn : n ∈ s) : still p s (n :: l) = still p s l ∧ MetOk p s l := by
  have ht : ∀ z ∈ tree p n, z ∈ s := fun z hz => (h [] n l rfl n hn (Nat.le_refl _) z hz).resolve_right (by simp)
  refine ⟨?_, fun a x c hl m hm hmx z hz => ?_⟩
  · show fresh s (tree p n ++ l.flatMap (tree p)) = _
    exact fresh_seen _ _ _ ht
  · rcases h (n :: a) x c (by rw [hl]; rfl) m hm hmx z hz with h1 | h1
    · exact .inl h1
    · rw [List.flatMap_cons, List.mem_append] at h1
      exact h1.imp (ht z) id
theorem met_step {p : Pr} (hp : Ahead p) {s l : List Nat} {n : Nat} (h : MetOk p s (n :: l)) (hn : n ∉ s) : still p s (n :: l) = n :: still p (n :: s) (partsN p n ++ l) ∧ MetOk p (n :: s) (partsN p n ++ l) := by
  refine ⟨?_, fun a x c hl m hm hmx z hz => ?_⟩
  · show fresh s ((n :: l).flatMap (tree p)) = n :: fresh (n :: s) ((partsN p n ++ l).flatMap (tree p))
    rw [List.flatMap_cons, tree_eq hp n, List.cons_append, List.flatMap_append]
    show (if n ∈ s then _ else _) = _
    rw [if_neg hn]
  · rcases List.append_eq_append_iff.1 hl with ⟨a', ha, hl'⟩ | ⟨c', hc, hl'⟩
    · -- x stands below the parts
      have hz2 : ∀ m ∈ s, m ≤ x → ∀ z ∈ tree p m, z ∈ n :: s ∨ z ∈ a.flatMap (tree p) := by
        intro m hm hmx z hz
        rcases h (n :: a') x c (by rw [hl']; rfl) m hm hmx z hz with h1 | h1
        · exact .inl (List.mem_cons_of_mem _ h1)
        · rw [List.flatMap_cons, List.mem_append, tree_eq hp n, List.mem_cons] at h1
          rw [ha, List.flatMap_append, List.mem_append]
          rcases h1 with (h1 | h1) | h1
          · exact .inl (h1 ▸ List.mem_cons_self ..)
          · exact .inr (.inl h1)
          · exact .inr (.inr h1)
      rcases List.mem_cons.1 hm with rfl | hm
      · rw [tree_eq hp m, List.mem_cons] at hz
        rcases hz with rfl | hz
        · exact .inl (List.mem_cons_self ..)
        · rw [ha, List.flatMap_append, List.mem_append]; exact .inr (.inl hz)
      · exact hz2 m hm hmx z hz
    · cases c' with
      | nil =>
        -- the parts are a: x is the top of what was below
        rw [List.append_nil] at hc
        rw [List.nil_append] at hl'
        have ha : a = partsN p n := hc.symm
        rcases List.mem_cons.1 hm with rfl | hm
        · rw [tree_eq hp m, List.mem_cons] at hz
          rcases hz with rfl | hz
          · exact .inl (List.mem_cons_self ..)
          · rw [ha]; exact .inr hz
        · rcases h [n] x c (by rw [← hl']; rfl) m hm hmx z hz with h1 | h1
          · exact .inl (List.mem_cons_of_mem _ h1)
          · rw [List.flatMap_cons, List.flatMap_nil, List.append_nil, tree_eq hp n, List.mem_cons] at h1
            rcases h1 with rfl | h1
            · exact .inl (List.mem_cons_self ..)
            · rw [ha]; exact .inr h1
      | cons y c'' =>
        have hxy : x = y := (List.cons.inj hl').1
        have hxn : x < n := hp n x (by rw [hc, hxy]; simp)
        rcases List.mem_cons.1 hm with rfl | hm
        · omega
        · exact .inl (List.mem_cons_of_mem _ ((h [] n l rfl m hm (by omega) z hz).resolve_right (by simp)))
/-- the numbers of a tree in the order in which they are met first -/
def metP (p : Pr) (e : Nat) : List Nat := still p [] [e]
theorem metP_eq (p : Pr) (e : Nat) : metP p e = fresh [] (tree p e) := by unfold metP still; rw [List.flatMap_cons, List.flatMap_nil, List.append_nil]
end Go.Proofs.Ytiilgehdkanmnaa
