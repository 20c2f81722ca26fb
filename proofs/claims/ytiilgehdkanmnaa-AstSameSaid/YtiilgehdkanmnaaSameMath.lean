/- Classes of trees: two trees have one class just if they are the same. -/
import Derived.Test.YtiilgehdkanmnaaSameNum
namespace Go.Proofs.Ytiilgehdkanmnaa

/-- the two maps' numbers are all different, and none is above the last -/
structure Good (F G : Value → Option Nat) (last : Nat) : Prop where
  fle : ∀ k c, F k = some c → c ≤ last
  gle : ∀ k c, G k = some c → c ≤ last
  finj : ∀ k k' c, F k = some c → F k' = some c → k = k'
  ginj : ∀ k k' c, G k = some c → G k' = some c → k = k'
  apart : ∀ k k' c, F k = some c → G k' = some c → False
theorem good_start : Good (fun _ => none) (fun _ => none) 0 := ⟨fun _ _ h => (by cases h), fun _ _ h => (by cases h), fun _ _ _ h => (by cases h), fun _ _ _ h => (by cases h), fun _ _ _ h => (by cases h)⟩
theorem putF_some {F : Value → Option Nat} {kv k : Value} {c d : Nat} (h : putF F kv c k = some d) : (k = kv ∧ d = c) ∨ F k = some d := by
  unfold putF at h
  split at h
  · rename_i e; cases h; exact .inl ⟨e, rfl⟩
  · exact .inr h
theorem Good.putHead {F G : Value → Option Nat} {last : Nat} (h : Good F G last) (kv : Value) : Good (putF F kv (last + 1)) G (last + 1) := by
  refine ⟨fun k c hk => ?_, fun k c hk => Nat.le_succ_of_le (h.gle k c hk), fun k k' c h1 h2 => ?_, h.ginj, fun k k' c h1 h2 => ?_⟩
  · rcases putF_some hk with ⟨_, rfl⟩ | h1
    · exact Nat.le_refl _
    · exact Nat.le_succ_of_le (h.fle k c h1)
  · rcases putF_some h1 with ⟨rfl, rfl⟩ | g1
    · rcases putF_some h2 with ⟨rfl, _⟩ | g2
      · rfl
      · have := h.fle _ _ g2; omega
    · rcases putF_some h2 with ⟨rfl, rfl⟩ | g2
      · have := h.fle _ _ g1; omega
      · exact h.finj _ _ _ g1 g2
  · rcases putF_some h1 with ⟨rfl, rfl⟩ | h1
    · have := h.gle _ _ h2; omega
    · exact h.apart _ _ _ h1 h2
theorem Good.putLink {F G : Value → Option Nat} {last : Nat} (h : Good F G last) (kv : Value) : Good F (putF G kv (last + 1)) (last + 1) := by
  refine ⟨fun k c hk => Nat.le_succ_of_le (h.fle k c hk), fun k c hk => ?_, h.finj, fun k k' c h1 h2 => ?_, fun k k' c h1 h2 => ?_⟩
  · rcases putF_some hk with ⟨_, rfl⟩ | h1
    · exact Nat.le_refl _
    · exact Nat.le_succ_of_le (h.gle k c h1)
  · rcases putF_some h1 with ⟨rfl, rfl⟩ | g1
    · rcases putF_some h2 with ⟨rfl, _⟩ | g2
      · rfl
      · have := h.gle _ _ g2; omega
    · rcases putF_some h2 with ⟨rfl, rfl⟩ | g2
      · have := h.gle _ _ g1; omega
      · exact h.ginj _ _ _ g1 g2
  · rcases putF_some h2 with ⟨rfl, rfl⟩ | h2
    · have := h.fle _ _ h1; omega
    · exact h.apart _ _ _ h1 h2
/-- what was numbered keeps its number -/
def ExtF (F F' : Value → Option Nat) : Prop := ∀ k c, F k = some c → F' k = some c
theorem ExtF.refl (F : Value → Option Nat) : ExtF F F := fun _ _ h => h
theorem ExtF.trans {F G H : Value → Option Nat} (h : ExtF F G) (k : ExtF G H) : ExtF F H := fun x c hx => k x c (h x c hx)
theorem extF_put {F : Value → Option Nat} {kv : Value} (hn : F kv = none) (c : Nat) : ExtF F (putF F kv c) := fun k d hk => by
  unfold putF
  split
  · rename_i e; subst e; rw [hn] at hk; cases hk
  · exact hk
theorem putF_self (F : Value → Option Nat) (kv : Value) (c : Nat) : putF F kv c kv = some c := by unfold putF; rw [if_pos rfl]
/-- the class of a head and of its parts' classes -/
def clsOf (F G : Value → Option Nat) (h : Value) (ks : List Nat) : Option Nat := ks.foldl (fun o k => o.bind fun c => G (linkV c k)) (F h)
theorem clsOf_nil (F G : Value → Option Nat) (h : Value) : clsOf F G h [] = F h := rfl
theorem clsOf_snoc (F G : Value → Option Nat) (h : Value) (ks : List Nat) (k : Nat) : clsOf F G h (ks ++ [k]) = (clsOf F G h ks).bind fun c => G (linkV c k) := by
  unfold clsOf; rw [List.foldl_append]; rfl
theorem list_snoc {α : Type} (l : List α) : l = [] ∨ ∃ m a, l = m ++ [a] := by
  rcases List.eq_nil_or_concat l with h | ⟨m, a, h⟩
  · exact .inl h
  · exact .inr ⟨m, a, by rw [h]; simp⟩
theorem clsOf_ext {F G F' G' : Value → Option Nat} (hF : ExtF F F') (hG : ExtF G G') (h : Value) : ∀ (n : Nat) (ks : List Nat) (c : Nat), ks.length = n → clsOf F G h ks = some c → clsOf F' G' h ks = some c
  | 0, ks, c, hl, hc => by
    obtain rfl := List.length_eq_zero_iff.1 hl
    exact hF _ _ hc
  | n + 1, ks, c, hl, hc => by
    rcases list_snoc ks with rfl | ⟨m, a, rfl⟩
    · cases hl
    · rw [clsOf_snoc] at hc ⊢
      obtain ⟨d, hd, hd2⟩ := Option.bind_eq_some_iff.1 hc
      rw [clsOf_ext hF hG h n m d (by simpa using hl) hd]
      exact hG _ _ hd2
theorem linkV_inj {c k c' k' : Nat} (h : linkV c k = linkV c' k') : c = c' ∧ k = k' := by
  unfold linkV at h
  simp at h
  omega
theorem clsOf_inj {F G : Value → Option Nat} {last : Nat} (g : Good F G last) : ∀ (n : Nat) (ks ks' : List Nat) (h h' : Value) (c : Nat), ks.length = n → clsOf F G h ks = some c → clsOf F G h' ks' = some c → h = h' ∧ ks = ks'
  | 0, ks, ks', h, h', c, hl, h1, h2 => by
    obtain rfl := List.length_eq_zero_iff.1 hl
    rcases list_snoc ks' with rfl | ⟨m, a, rfl⟩
    · exact ⟨g.finj _ _ _ h1 h2, rfl⟩
    · rw [clsOf_snoc] at h2
      obtain ⟨d, _, hd2⟩ := Option.bind_eq_some_iff.1 h2
      exact (g.apart _ _ _ h1 hd2).elim
  | n + 1, ks, ks', h, h', c, hl, h1, h2 => by
    rcases list_snoc ks with rfl | ⟨m, a, rfl⟩
    · cases hl
    · rw [clsOf_snoc] at h1
      obtain ⟨d, hd, hd2⟩ := Option.bind_eq_some_iff.1 h1
      rcases list_snoc ks' with rfl | ⟨m', a', rfl⟩
      · exact (g.apart _ _ _ h2 hd2).elim
      · rw [clsOf_snoc] at h2
        obtain ⟨d', hd', hd2'⟩ := Option.bind_eq_some_iff.1 h2
        obtain ⟨e1, e2⟩ := linkV_inj (g.ginj _ _ _ hd2 hd2')
        subst e1
        obtain ⟨e3, e4⟩ := clsOf_inj g n m m' h h' d (by simpa using hl) hd hd'
        rw [e3, e4, e2]
        exact ⟨rfl, rfl⟩
theorem headV_iff (x y : Ex) : headV x = headV y ↔ (x.kind = y.kind ∧ x.name = y.name ∧ x.state = y.state ∧ x.v = y.v) := by
  unfold headV
  simp
/-- the same but for the parts -/
def headE (x y : Ex) : Bool := decide (x.kind = y.kind) && decide (x.name = y.name) && decide (x.state = y.state) && decide (x.v = y.v)
theorem headE_iff (x y : Ex) : headE x y = true ↔ headV x = headV y := by
  unfold headE
  rw [headV_iff]
  simp [and_assoc]
/-- are two trees, of two lists of expressions, the same -/
def sameN (l m : List Ex) : Nat → Nat → Nat → Bool
  | 0, _, _ => false
  | f + 1, a, b => match l[a]?, m[b]? with
    | some x, some y => headE x y && decide ((partsE x).length = (partsE y).length) && ((partsE x).zip (partsE y)).all fun z => sameN l m f z.1.toNat z.2.toNat
    | _, _ => false
def sameL (l m : List Ex) (a b : Nat) : Bool := sameN l m (a + 1) a b
/-- parts stand ahead -/
def AheadL (l : List Ex) : Prop := ∀ (i : Nat) (x : Ex), l[i]? = some x → ∀ z ∈ partsE x, 0 ≤ z ∧ z < (i : Int)
theorem zip_all_congr {α β : Type} : ∀ (l : List α) (m : List β) (p q : α × β → Bool), (∀ z ∈ l.zip m, p z = q z) → (l.zip m).all p = (l.zip m).all q := fun l m p q h => by
  rw [Bool.eq_iff_iff, List.all_eq_true, List.all_eq_true]
  exact ⟨fun hh z hz => by rw [← h z hz]; exact hh z hz, fun hh z hz => by rw [h z hz]; exact hh z hz⟩
theorem sameN_enough {l m : List Ex} (hl : AheadL l) : ∀ (f a b : Nat), a < f → sameN l m f a b = sameL l m a b
  | 0, a, _, h => by omega
  | f + 1, a, b, h => by
    unfold sameL
    show (match l[a]?, m[b]? with | some x, some y => _ | _, _ => false) = (match l[a]?, m[b]? with | some x, some y => _ | _, _ => false)
    cases hx : l[a]? with
    | none => rfl
    | some x =>
      cases hy : m[b]? with
      | none => rfl
      | some y =>
        show (_ && _) = (_ && _)
        congr 1
        refine zip_all_congr _ _ _ _ fun z hz => ?_
        have h1 := hl a x hx z.1 (List.of_mem_zip hz).1
        rw [sameN_enough hl f z.1.toNat z.2.toNat (by omega), sameN_enough hl a z.1.toNat z.2.toNat (by omega)]
termination_by f => f
theorem sameL_eq {l m : List Ex} (hl : AheadL l) {a b : Nat} {x y : Ex} (hx : l[a]? = some x) (hy : m[b]? = some y) :
    sameL l m a b = (headE x y && decide ((partsE x).length = (partsE y).length) && ((partsE x).zip (partsE y)).all fun z => sameL l m z.1.toNat z.2.toNat) := by
  unfold sameL
  show (match l[a]?, m[b]? with | some x, some y => _ | _, _ => false) = _
  rw [hx, hy]
  show (_ && _) = (_ && _)
  congr 1
  refine zip_all_congr _ _ _ _ fun z hz => ?_
  have h1 := hl a x hx z.1 (List.of_mem_zip hz).1
  exact sameN_enough hl a z.1.toNat z.2.toNat (by omega)
/-- the classes of a list of expressions -/
def ClsAll (F G : Value → Option Nat) (l : List Ex) (cs : List Nat) : Prop := cs.length = l.length ∧ ∀ (i : Nat) (x : Ex), l[i]? = some x → clsOf F G (headV x) ((partsE x).map fun z => cs.getD z.toNat 0) = some (cs.getD i 0)
theorem ClsAll.ext {F G F' G' : Value → Option Nat} {l : List Ex} {cs : List Nat} (h : ClsAll F G l cs) (hF : ExtF F F') (hG : ExtF G G') : ClsAll F' G' l cs := ⟨h.1, fun i x hx => clsOf_ext hF hG _ _ _ _ rfl (h.2 i x hx)⟩
theorem map_eq_zip {α β : Type} (f : α → Nat) (g : β → Nat) : ∀ (l : List α) (m : List β), l.map f = m.map g ↔ (l.length = m.length ∧ ∀ z ∈ l.zip m, f z.1 = g z.2)
  | [], [] => by simp
  | [], b :: m => by simp
  | a :: l, [] => by simp
  | a :: l, b :: m => by
    rw [List.map_cons, List.map_cons, List.cons.injEq, map_eq_zip f g l m]
    simp only [List.length_cons, List.zip_cons_cons, List.mem_cons, forall_eq_or_imp, Nat.add_right_cancel_iff]
    exact ⟨fun h => ⟨h.2.1, h.1, h.2.2⟩, fun h => ⟨h.2.1, h.1, h.2.2⟩⟩
/-- two trees have one class just if they are the same -/
theorem cls_same {F G : Value → Option Nat} {last : Nat} (g : Good F G last) {l m : List Ex} {cs ds : List Nat} (hl : AheadL l) (hm : AheadL m) (hc : ClsAll F G l cs) (hd : ClsAll F G m ds) :
    ∀ (a b : Nat), a < l.length → b < m.length → (cs.getD a 0 = ds.getD b 0 ↔ sameL l m a b = true) := by
  intro a
  induction a using Nat.strongRecOn with
  | _ a ih =>
  intro b ha hb
  have hx := List.getElem?_eq_getElem ha
  have hy := List.getElem?_eq_getElem hb
  have h1 := hc.2 a _ hx
  have h2 := hd.2 b _ hy
  rw [sameL_eq hl hx hy, Bool.and_eq_true, Bool.and_eq_true, headE_iff, decide_eq_true_eq, List.all_eq_true]
  have hz : (∀ z ∈ (partsE l[a]).zip (partsE m[b]), cs.getD z.1.toNat 0 = ds.getD z.2.toNat 0) ↔ (∀ z ∈ (partsE l[a]).zip (partsE m[b]), sameL l m z.1.toNat z.2.toNat = true) := by
    refine forall_congr' fun z => forall_congr' fun hz => ?_
    have e1 := hl a _ hx z.1 (List.of_mem_zip hz).1
    have e2 := hm b _ hy z.2 (List.of_mem_zip hz).2
    exact ih z.1.toNat (by omega) z.2.toNat (by omega) (by omega)
  rw [and_assoc, ← hz, ← map_eq_zip (fun z : Int => cs.getD z.toNat 0) (fun z : Int => ds.getD z.toNat 0)]
  constructor
  · intro e
    rw [← e] at h2
    exact clsOf_inj g _ _ _ _ _ _ rfl h1 h2
  · rintro ⟨e1, e2⟩
    rw [e1, e2] at h1
    rw [h1] at h2
    exact Option.some.inj h2
end Go.Proofs.Ytiilgehdkanmnaa
