/- The names of a tree, each once, in the order in which they are met. -/
import Derived.Test.YtiilgehdkanmnaaMetMath
namespace Go.Proofs.Ytiilgehdkanmnaa
open Classical

noncomputable def stepN (p : Pr) (acc : List ByteArray) (n : Nat) : List ByteArray := match p.exprs[n]? with
  | some x => if x.kind = 3 ∧ x.name ∉ acc then acc ++ [x.name] else acc
  | none => acc
/-- the names among numbers -/
noncomputable def namesL (p : Pr) (l : List Nat) : List ByteArray := l.foldl (stepN p) []
theorem namesL_snoc (p : Pr) (l : List Nat) (n : Nat) : namesL p (l ++ [n]) = stepN p (namesL p l) n := by unfold namesL; rw [List.foldl_append]; rfl
theorem stepN_mem {p : Pr} {acc : List ByteArray} {n : Nat} {s : ByteArray} (h : s ∈ acc) : s ∈ stepN p acc n := by
  unfold stepN
  split
  · split
    · exact List.mem_append_left _ h
    · exact h
  · exact h
/-- a number that adds nothing more -/
def Done (p : Pr) (acc : List ByteArray) (n : Nat) : Prop := ∀ x, p.exprs[n]? = some x → x.kind = 3 → x.name ∈ acc
theorem stepN_done {p : Pr} {acc : List ByteArray} {n : Nat} (h : Done p acc n) : stepN p acc n = acc := by
  unfold stepN
  split
  · rename_i x hx
    rw [if_neg fun hh => hh.2 (h x hx hh.1)]
  · rfl
theorem done_step {p : Pr} {acc : List ByteArray} {n m : Nat} (h : Done p acc n) : Done p (stepN p acc m) n := fun x hx hk => stepN_mem (h x hx hk)
theorem done_self (p : Pr) (acc : List ByteArray) (n : Nat) : Done p (stepN p acc n) n := by
  intro x hx hk
  unfold stepN
  rw [hx]
  show x.name ∈ if x.kind = 3 ∧ x.name ∉ acc then acc ++ [x.name] else acc
  by_cases h : x.name ∈ acc
  · rw [if_neg fun hh => hh.2 h]; exact h
  · rw [if_pos ⟨hk, h⟩]; exact List.mem_append_right _ (List.mem_singleton.2 rfl)
theorem fold_fresh (p : Pr) : ∀ (t s : List Nat) (acc : List ByteArray), (∀ m ∈ s, Done p acc m) → (fresh s t).foldl (stepN p) acc = t.foldl (stepN p) acc
  | [], _, _, _ => rfl
  | n :: t, s, acc, h => by
    show (if n ∈ s then fresh s t else n :: fresh (n :: s) t).foldl _ _ = _
    by_cases hn : n ∈ s
    · rw [if_pos hn, List.foldl_cons, stepN_done (h n hn)]; exact fold_fresh p t s acc h
    · rw [if_neg hn, List.foldl_cons, List.foldl_cons]
      exact fold_fresh p t (n :: s) _ fun m hm => by
        rcases List.mem_cons.1 hm with rfl | hm
        · exact done_self p acc m
        · exact done_step (h m hm)
/-- the names of those that are met are those of the tree -/
theorem names_met (p : Pr) (e : Nat) : namesL p (metP p e) = namesL p (tree p e) := by rw [metP_eq]; exact fold_fresh p _ [] [] fun m hm => by cases hm
theorem nodup_le : ∀ (n : Nat) (l : List Nat), l.Nodup → (∀ x ∈ l, x < n) → l.length ≤ n
  | 0, l, _, h => by
    cases l with
    | nil => exact Nat.le_refl _
    | cons a l => exact absurd (h a (List.mem_cons_self ..)) (by omega)
  | n + 1, l, hd, h => by
    by_cases hn : n ∈ l
    · have h2 := nodup_le n (l.erase n) (hd.erase n) fun x hx => by
        have := (List.Nodup.mem_erase_iff hd).1 hx
        have := h x this.2
        omega
      rw [List.length_erase_of_mem hn] at h2
      omega
    · have := nodup_le n l hd fun x hx => by
        have h1 := h x hx
        have : x ≠ n := fun e => hn (e ▸ hx)
        omega
      omega
theorem fresh_sub : ∀ (t s : List Nat) (m : Nat), m ∈ fresh s t → m ∈ t ∧ m ∉ s
  | [], _, _, h => by cases h
  | a :: t, s, m, h => by
    by_cases ha : a ∈ s
    · have h2 : m ∈ fresh s t := by unfold fresh at h; rwa [if_pos ha] at h
      have := fresh_sub t s m h2
      exact ⟨List.mem_cons_of_mem _ this.1, this.2⟩
    · have h2 : m ∈ a :: fresh (a :: s) t := by unfold fresh at h; rwa [if_neg ha] at h
      rcases List.mem_cons.1 h2 with rfl | h3
      · exact ⟨List.mem_cons_self .., ha⟩
      · have := fresh_sub t (a :: s) m h3
        exact ⟨List.mem_cons_of_mem _ this.1, fun hh => this.2 (List.mem_cons_of_mem _ hh)⟩
theorem fresh_nodup : ∀ (t s : List Nat), (fresh s t).Nodup
  | [], _ => List.nodup_nil
  | a :: t, s => by
    unfold fresh
    split
    · exact fresh_nodup t s
    · exact List.nodup_cons.2 ⟨fun h => (fresh_sub t (a :: s) a h).2 (List.mem_cons_self ..), fresh_nodup t (a :: s)⟩
theorem treeN_le {p : Pr} (h : Ahead p) : ∀ (f e : Nat), ∀ z ∈ treeN p f e, z ≤ e
  | 0, _, _, hz => by cases hz
  | f + 1, e, z, hz => by
    rcases List.mem_cons.1 hz with rfl | hz
    · exact Nat.le_refl _
    · obtain ⟨a, ha, hza⟩ := List.mem_flatMap.1 hz
      have := h e a ha
      have := treeN_le h f a z hza
      omega
theorem metP_len {p : Pr} (h : Ahead p) (e : Nat) : (metP p e).length ≤ e + 1 := by
  rw [metP_eq]
  exact nodup_le (e + 1) _ (fresh_nodup _ _) fun x hx => by
    have := treeN_le h (e + 1) e x (fresh_sub _ _ _ hx).1
    omega
theorem stepN_len (p : Pr) (acc : List ByteArray) (n : Nat) : (stepN p acc n).length ≤ acc.length + 1 := by
  unfold stepN
  split
  · split
    · simp
    · omega
  · omega
theorem namesL_len (p : Pr) : ∀ (l : List Nat), (namesL p l).length ≤ l.length := by
  intro l
  have : ∀ (l : List Nat) (acc : List ByteArray), (l.foldl (stepN p) acc).length ≤ acc.length + l.length := by
    intro l
    induction l with
    | nil => intro acc; simp
    | cons a l ih => intro acc; have := ih (stepN p acc a); have := stepN_len p acc a; rw [List.foldl_cons, List.length_cons]; omega
  have := this l []
  unfold namesL
  simpa using this
theorem names_step {p : Pr} {pre : List Nat} {z : Nat} {x : Ex} (hx : p.exprs[z]? = some x) (hk : x.kind = 3) (hn : x.name ∉ namesL p pre) : namesL p (pre ++ [z]) = namesL p pre ++ [x.name] := by
  rw [namesL_snoc]
  unfold stepN
  rw [hx]
  exact if_pos ⟨hk, hn⟩
theorem names_skip {p : Pr} {pre : List Nat} {z : Nat} {x : Ex} (hx : p.exprs[z]? = some x) (h : x.kind = 3 → x.name ∈ namesL p pre) : namesL p (pre ++ [z]) = namesL p pre := by
  rw [namesL_snoc]
  refine stepN_done fun y hy hk => ?_
  rw [hx] at hy
  cases hy
  exact h hk
end Go.Proofs.Ytiilgehdkanmnaa
