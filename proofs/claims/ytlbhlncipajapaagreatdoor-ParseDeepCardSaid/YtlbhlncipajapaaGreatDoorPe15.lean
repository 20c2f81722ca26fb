/- Joined: AstOpen. -/
import Derived.Test.YtlbhlncipajapaaGreatDoorPe13
import Derived.Test.YtlbhlncipajapaaGreatDoorChecked
import Derived.Deep.Slices
import Derived.Deep.Fields
import Derived.Deep.Strs
import Derived.SizedLaws
import Derived.Carry
import Derived.Lib.SmallJoins
namespace Go.Proofs.YtlbhlncipajapaaGreatDoor
open Go.ChangeShapes Go.WideShapes Go.Deep Go.RowKit

/-- the reach of what comes in -/
def reachN : Nat := 140737488351232
/-- slice value s has n elements of so many cells, each in its place -/
def CapOk (o : Option Addr) (cap : Nat) : Prop := cap ≤ maxLen ∧ (o = none → cap = 0)
def SlAt (s : Value) (n sz : Nat) (el : Nat → Nat → Nat → Prop) : Prop :=
  ∃ o cap b off, s = .slice o n cap ∧ n ≤ cap ∧ CapOk o cap ∧ (0 < n → o = some ⟨b, off, none⟩) ∧ ∀ i, i < n → el b (off + i * sz) i
theorem slAt_none (n sz cap : Nat) (o : Option Addr) (el : Nat → Nat → Nat → Prop) (hc : CapOk o cap) (h : n = 0) : SlAt (.slice o n cap) n sz el := by
  subst h; exact ⟨o, cap, 0, 0, rfl, Nat.zero_le _, hc, by omega, by omega⟩
theorem slAt_some {n sz cap b off : Nat} {el : Nat → Nat → Nat → Prop} (h1 : n ≤ cap) (h2 : cap ≤ maxLen) (h : ∀ i, i < n → el b (off + i * sz) i) : SlAt (.slice (some ⟨b, off, none⟩) n cap) n sz el := ⟨_, cap, b, off, rfl, h1, ⟨h2, fun h => by cases h⟩, fun _ => rfl, h⟩
theorem SlAt.mono {s : Value} {n sz : Nat} {p q : Nat → Nat → Nat → Prop} (h : SlAt s n sz p) (hpq : ∀ b o i, i < n → p b o i → q b o i) : SlAt s n sz q := by
  obtain ⟨o, cap, b, off, h1, h2, h3, h4, h5⟩ := h
  exact ⟨o, cap, b, off, h1, h2, h3, h4, fun i hi => hpq _ _ _ hi (h5 i hi)⟩
def IntsAt (w : World) (s : Value) (l : List Int) : Prop := SlAt s l.length 1 fun b o i => w.cell? ⟨b, o, none⟩ = some (.int .i64 (l.getD i 0))
def StrsAt (w : World) (s : Value) (l : List ByteArray) : Prop := SlAt s l.length 1 fun b o i => w.cell? ⟨b, o, none⟩ = some (.string (l.getD i ⟨#[]⟩))
def i64ok (n : Int) : Prop := -9223372036854775808 ≤ n ∧ n ≤ 9223372036854775807
/-- the numbers of an expression are such numbers; what it has isn't beyond reach -/
structure ExOk (x : Ex) : Prop where
  kind : i64ok x.kind
  a : i64ok x.a
  b : i64ok x.b
  c : i64ok x.c
  v : i64ok x.v
  name : x.name.size ≤ reachN
  state : x.state.size ≤ reachN
  args : x.args.length ≤ reachN
  argsOk : ∀ n ∈ x.args, i64ok n
/-- an expression in its nine cells -/
def ExAt (w : World) (b o : Nat) (x : Ex) : Prop := ∃ s, w.cell? ⟨b, o, none⟩ = some (.int .i64 x.kind) ∧ w.cell? ⟨b, o + 1, none⟩ = some (.int .i64 x.a) ∧ w.cell? ⟨b, o + 2, none⟩ = some (.int .i64 x.b) ∧
  w.cell? ⟨b, o + 3, none⟩ = some (.int .i64 x.c) ∧ w.cell? ⟨b, o + 4, none⟩ = some (.string x.name) ∧ w.cell? ⟨b, o + 5, none⟩ = some (.string x.state) ∧ w.cell? ⟨b, o + 6, none⟩ = some (.int .i64 x.v) ∧
  w.cell? ⟨b, o + 7, none⟩ = some s ∧ w.cell? ⟨b, o + 8, none⟩ = some (.int .i64 x.pos) ∧ IntsAt w s x.args ∧ ExOk x
structure ItOk (x : It) : Prop where
  kind : i64ok x.kind
  e : i64ok x.e
  f : i64ok x.f
  name : x.name.size ≤ reachN
  state : x.state.size ≤ reachN
  next : x.next.size ≤ reachN
  states : x.states.length ≤ reachN
  statesOk : ∀ s ∈ x.states, s.size ≤ reachN
def ItAt (w : World) (b o : Nat) (x : It) : Prop := ∃ s, w.cell? ⟨b, o, none⟩ = some (.int .i64 x.kind) ∧ w.cell? ⟨b, o + 1, none⟩ = some (.string x.name) ∧ w.cell? ⟨b, o + 2, none⟩ = some (.int .i64 x.type) ∧
  w.cell? ⟨b, o + 3, none⟩ = some (.int .i64 x.e) ∧ w.cell? ⟨b, o + 4, none⟩ = some (.int .i64 x.f) ∧ w.cell? ⟨b, o + 5, none⟩ = some s ∧ w.cell? ⟨b, o + 6, none⟩ = some (.string x.state) ∧
  w.cell? ⟨b, o + 7, none⟩ = some (.string x.next) ∧ w.cell? ⟨b, o + 8, none⟩ = some (.int .i64 x.pos) ∧ StrsAt w s x.states ∧ ItOk x
def PaAt (w : World) (b o : Nat) (x : Pa) : Prop := w.cell? ⟨b, o, none⟩ = some (.string x.name) ∧ w.cell? ⟨b, o + 1, none⟩ = some (.int .i64 x.type) ∧ x.name.size ≤ reachN ∧ i64ok x.type
structure DeOk (x : De) : Prop where
  kind : i64ok x.kind
  e : i64ok x.e
  name : x.name.size ≤ reachN
  params : x.params.length ≤ reachN
  items : x.items.length ≤ reachN
def DeAt (w : World) (b o : Nat) (x : De) : Prop := ∃ s t, w.cell? ⟨b, o, none⟩ = some (.int .i64 x.kind) ∧ w.cell? ⟨b, o + 1, none⟩ = some (.string x.name) ∧ w.cell? ⟨b, o + 2, none⟩ = some s ∧
  w.cell? ⟨b, o + 3, none⟩ = some t ∧ w.cell? ⟨b, o + 4, none⟩ = some (.int .i64 x.type) ∧ w.cell? ⟨b, o + 5, none⟩ = some (.int .i64 x.e) ∧ w.cell? ⟨b, o + 6, none⟩ = some (.int .i64 x.pos) ∧
  SlAt s x.params.length 2 (fun b o i => ∀ y, x.params[i]? = some y → PaAt w b o y) ∧ SlAt t x.items.length 9 (fun b o i => ∀ y, x.items[i]? = some y → ItAt w b o y) ∧ DeOk x
def ExsAt (w : World) (s : Value) (l : List Ex) : Prop := SlAt s l.length 9 fun b o i => ∀ x, l[i]? = some x → ExAt w b o x
def DesAt (w : World) (s : Value) (l : List De) : Prop := SlAt s l.length 7 fun b o i => ∀ x, l[i]? = some x → DeAt w b o x
/-- a program of two slices -/
def ProgAt (w : World) (sd se : Value) (p : Pr) : Prop := DesAt w sd p.decls ∧ ExsAt w se p.exprs ∧ p.decls.length ≤ reachN ∧ p.exprs.length ≤ reachN

/-! ### What lay there stays -/
theorem cell_on {w w' : World} (hb : Below w.heap.size w w') {a : Addr} {v : Value} (h : w.cell? a = some v) : w'.cell? a = some v := (hb.cell (World.block_lt_of_cell? _ _ h)).trans h
theorem IntsAt.below {w w' : World} {s : Value} {l : List Int} (h : IntsAt w s l) (hb : Below w.heap.size w w') : IntsAt w' s l := h.mono fun _ _ _ _ h => cell_on hb h
theorem StrsAt.below {w w' : World} {s : Value} {l : List ByteArray} (h : StrsAt w s l) (hb : Below w.heap.size w w') : StrsAt w' s l := h.mono fun _ _ _ _ h => cell_on hb h
theorem ExAt.below {w w' : World} {b o : Nat} {x : Ex} (h : ExAt w b o x) (hb : Below w.heap.size w w') : ExAt w' b o x := by
  obtain ⟨s, h0, h1, h2, h3, h4, h5, h6, h7, h8, h9, hk⟩ := h
  exact ⟨s, cell_on hb h0, cell_on hb h1, cell_on hb h2, cell_on hb h3, cell_on hb h4, cell_on hb h5, cell_on hb h6, cell_on hb h7, cell_on hb h8, h9.below hb, hk⟩
theorem ItAt.below {w w' : World} {b o : Nat} {x : It} (h : ItAt w b o x) (hb : Below w.heap.size w w') : ItAt w' b o x := by
  obtain ⟨s, h0, h1, h2, h3, h4, h5, h6, h7, h8, h9, hk⟩ := h
  exact ⟨s, cell_on hb h0, cell_on hb h1, cell_on hb h2, cell_on hb h3, cell_on hb h4, cell_on hb h5, cell_on hb h6, cell_on hb h7, cell_on hb h8, h9.below hb, hk⟩
theorem PaAt.below {w w' : World} {b o : Nat} {x : Pa} (h : PaAt w b o x) (hb : Below w.heap.size w w') : PaAt w' b o x := ⟨cell_on hb h.1, cell_on hb h.2.1, h.2.2⟩
theorem DeAt.below {w w' : World} {b o : Nat} {x : De} (h : DeAt w b o x) (hb : Below w.heap.size w w') : DeAt w' b o x := by
  obtain ⟨s, t, h0, h1, h2, h3, h4, h5, h6, h7, h8, hk⟩ := h
  exact ⟨s, t, cell_on hb h0, cell_on hb h1, cell_on hb h2, cell_on hb h3, cell_on hb h4, cell_on hb h5, cell_on hb h6, h7.mono fun _ _ _ _ h y hy => (h y hy).below hb, h8.mono fun _ _ _ _ h y hy => (h y hy).below hb, hk⟩
theorem ExsAt.below {w w' : World} {s : Value} {l : List Ex} (h : ExsAt w s l) (hb : Below w.heap.size w w') : ExsAt w' s l := h.mono fun _ _ _ _ h x hx => (h x hx).below hb
theorem DesAt.below {w w' : World} {s : Value} {l : List De} (h : DesAt w s l) (hb : Below w.heap.size w w') : DesAt w' s l := h.mono fun _ _ _ _ h x hx => (h x hx).below hb
theorem ProgAt.below {w w' : World} {sd se : Value} {p : Pr} (h : ProgAt w sd se p) (hb : Below w.heap.size w w') : ProgAt w' sd se p := ⟨h.1.below hb, h.2.1.below hb, h.2.2⟩

/-! ### Opened -/
section
variable {H : Type} {enc : TypeId × Value → H} {w : World}

theorem weights_all {H : Type} {P : Program} {e : TypeId} : ∀ {l : List (DataW H)} {d : DataW H}, d ∈ l → ∀ n ∈ d.weights P e, n ∈ DataW.weightsAll P e l
  | x :: r, d, hd, n, hn => by
    simp only [DataW.weightsAll, List.mem_append]
    rcases List.mem_cons.1 hd with rfl | h
    · exact .inl hn
    · exact .inr (weights_all h n hn)
theorem spot_none {w : World} {a : Addr} {v : Value} (h : w.cell? a = some v) : a = ⟨a.block, a.off, none⟩ := by
  obtain ⟨b, o, s⟩ := a
  unfold World.cell? at h
  split at h
  · cases s with
    | none => rfl
    | some x => simp at h
  · cases h
theorem add_none (a : Addr) (h : a = ⟨a.block, a.off, none⟩) (i : Nat) : a.add i = ⟨a.block, a.off + i, none⟩ := by
  rw [h]; exact add_plain _ _ _
theorem wf_i64 {n : Int} (h : (Lit.int .i64 n).wf = true) : i64ok n := by
  simp [Lit.wf, IntKind.min, IntKind.max, IntKind.signed, IntKind.bits] at h
  unfold i64ok; omega
theorem reach_le {n : Nat} (h : n ≤ reachBytes) : n ≤ reachN := h

theorem open_intsAt {fuel : Nat} {cs : List Value} {x : DataW H × List MemPlace} (h : DataW.trod enc Tryz.prog w 0 (fun _ => true) true fuel 44 cs = some x) (hw : ∀ n ∈ x.1.weights Tryz.prog 44, n ≤ reachBytes) :
    ∃ s l, cs = [s] ∧ IntsAt w s l ∧ l.length ≤ reachN ∧ ∀ n ∈ l, i64ok n := by
  rcases open_ints Tryz.underlying44 Tryz.underlying3 (by kernel_rfl) h with ⟨rfl, rfl⟩ | ⟨a, len, cap, zs, rfl, _, hlc, hcm, hz, rfl, hc, hwf⟩
  · exact ⟨_, [], rfl, slAt_none _ _ _ _ _ ⟨Nat.zero_le _, fun _ => rfl⟩ rfl, Nat.zero_le _, by simp⟩
  · simp only [if_true] at hz
    have hl : (zs.take len).length = len := by simp [hz]; omega
    have hr : len ≤ reachN := by
      have := hw ((lits .i64 (zs.take len)).length * Tryz.prog.bytesOf 3 + (lits .i64 (zs.drop len) : List (DataW H)).length * Tryz.prog.bytesOf 3) (by
        simp only [DataW.weights, Tryz.underlying44, ← Nat.add_mul]; exact List.mem_cons_self)
      have hb : Tryz.prog.bytesOf 3 = 8 := by kernel_rfl
      rw [hb] at this
      have e1 : (lits .i64 (zs.take len) : List (DataW H)).length = len := by simp [lits, hz]; omega
      rw [e1] at this
      exact reach_le (by omega)
    refine ⟨_, zs.take len, rfl, ?_, by rw [hl]; exact hr, fun n hn => wf_i64 (hwf n (List.mem_of_mem_take hn))⟩
    unfold IntsAt
    rw [hl]
    rcases Nat.eq_zero_or_pos len with rfl | hp
    · exact slAt_none _ _ _ _ _ ⟨hcm, fun h => by cases h⟩ rfl
    · have h0 := hc 0 (by omega)
      have ha := spot_none h0
      have ha' : a = ⟨a.block, a.off, none⟩ := by
        obtain ⟨b, o, s⟩ := a
        simp [Addr.add] at ha
        simp [ha]
      rw [ha']
      refine slAt_some hlc hcm fun i hi => ?_
      have := hc i (by omega)
      rw [add_none a ha'] at this
      show w.cell? ⟨a.block, a.off + i * 1, none⟩ = _
      rw [Nat.mul_one, this]
      congr 2
      simp [List.getD, hi]
theorem open_strsAt {fuel : Nat} {cs : List Value} {x : DataW H × List MemPlace} (h : DataW.trod enc Tryz.prog w 0 (fun _ => true) true fuel 63 cs = some x) (hw : ∀ n ∈ x.1.weights Tryz.prog 63, n ≤ reachBytes) :
    ∃ s l, cs = [s] ∧ StrsAt w s l ∧ l.length ≤ reachN ∧ ∀ s ∈ l, s.size ≤ reachN := by
  rcases open_strs Tryz.underlying63 Tryz.underlying9 (by kernel_rfl) h with ⟨rfl, rfl⟩ | ⟨a, len, cap, m, Sx, rfl, _, hlc, hcm, hm, rfl, hc⟩
  · exact ⟨_, [], rfl, slAt_none _ _ _ _ _ ⟨Nat.zero_le _, fun _ => rfl⟩ rfl, Nat.zero_le _, by simp⟩
  · simp only [if_true] at hm
    have hb : Tryz.prog.bytesOf 9 = 16 := by kernel_rfl
    have hr : len ≤ reachN := by
      have := hw _ (by simp only [DataW.weights, Tryz.underlying63]; exact List.mem_cons_self)
      rw [hb] at this
      simp at this
      exact reach_le (by omega)
    have hs : ∀ i, i < len → (Sx i).size ≤ reachN := fun i hi => reach_le (hw _ (by
      simp only [DataW.weights, Tryz.underlying63]
      refine List.mem_cons_of_mem _ (List.mem_append_left _ (weights_all (List.mem_map.2 ⟨i, List.mem_range.2 hi, rfl⟩) _ ?_))
      simp [DataW.weights]))
    refine ⟨_, (List.range len).map Sx, rfl, ?_, by simpa using hr, fun s hsm => by
      obtain ⟨i, hi, rfl⟩ := List.mem_map.1 hsm
      exact hs i (List.mem_range.1 hi)⟩
    unfold StrsAt
    rw [List.length_map, List.length_range]
    rcases Nat.eq_zero_or_pos len with rfl | hp
    · exact slAt_none _ _ _ _ _ ⟨hcm, fun h => by cases h⟩ rfl
    · have ha := spot_none (hc 0 (by omega)).1
      have ha' : a = ⟨a.block, a.off, none⟩ := by
        obtain ⟨b, o, s⟩ := a
        simp [Addr.add] at ha
        simp [ha]
      rw [ha']
      refine slAt_some hlc hcm fun i hi => ?_
      have := (hc i (by omega)).1
      rw [add_none a ha'] at this
      show w.cell? ⟨a.block, a.off + i * 1, none⟩ = _
      rw [Nat.mul_one, this]
      simp [List.getD, hi]
/-- a slice of structs whose fields are one cell each -/
theorem open_fieldsAt {t e : TypeId} {fs : Array Field} (ht : Tryz.prog.underlying t = some (.slice e)) (he : Tryz.prog.underlying e = some (.struct fs)) (hone : oneCellFields Tryz.prog fs = true) (hC : Tryz.prog.cellsOf e = fs.size) (hpos : 0 < fs.size) (hB : 0 < Tryz.prog.bytesOf e)
    {fuel : Nat} {cs : List Value} {x : DataW H × List MemPlace} (h : DataW.trod enc Tryz.prog w 0 (fun _ => true) true fuel t cs = some x) (hw : ∀ n ∈ x.1.weights Tryz.prog t, n ≤ reachBytes) :
    ∃ s n, cs = [s] ∧ n ≤ reachN ∧ SlAt s n fs.size fun b o _ => ∃ fu, ∀ (j : Nat) (f : Field), fs[j]? = some f → ∃ (v : Value) (y : DataW H × List MemPlace), w.cell? ⟨b, o + j, none⟩ = some v ∧
      DataW.trod enc Tryz.prog w 0 (fun _ => true) true fu f.type [v] = some y ∧ ∀ n ∈ y.1.weights Tryz.prog f.type, n ≤ reachBytes := by
  rcases open_slice ht h with ⟨rfl, rfl⟩ | ⟨a, len, cap, m, nf, D, Pl, rfl, _, hlc, hcm, hm, rfl, hel⟩
  · exact ⟨_, 0, rfl, Nat.zero_le _, slAt_none _ _ _ _ _ ⟨Nat.zero_le _, fun _ => rfl⟩ rfl⟩
  · simp only [if_true] at hm
    have hr : len ≤ reachN := by
      have := hw _ (by simp only [DataW.weights, ht]; exact List.mem_cons_self)
      simp only [List.length_map, List.length_range] at this
      have h2 : len ≤ (len + (m - len)) * Tryz.prog.bytesOf e := Nat.le_trans (by omega) (Nat.le_mul_of_pos_right _ hB)
      exact reach_le (Nat.le_trans h2 this)
    have one : ∀ i, i < len → ∃ fu, ∀ (j : Nat) (f : Field), fs[j]? = some f → ∃ (v : Value) (y : DataW H × List MemPlace), w.cell? (a.add (i * fs.size + j)) = some v ∧
        DataW.trod enc Tryz.prog w 0 (fun _ => true) true fu f.type [v] = some y ∧ ∀ n ∈ y.1.weights Tryz.prog f.type, n ≤ reachBytes := by
      intro i hi
      obtain ⟨cs', hcs, htr⟩ := hel i (by omega)
      rw [hC] at hcs
      obtain ⟨ys, fu, hy, hxy, hlen, hyl, hf⟩ := DataW.trod_struct he htr
      obtain ⟨_, hcl, hat⟩ := World.cells?_some hcs
      simp only [Prod.mk.injEq] at hxy
      refine ⟨fu, fun j f hj => ?_⟩
      obtain ⟨ho, hk⟩ := hone_of hone j f hj
      have hjl : j < fs.size := (Array.getElem?_eq_some_iff.1 hj).1
      have hv : cs'[j]? = some (cs'[j]'(by omega)) := List.getElem?_eq_getElem (by omega)
      have hys : ys[j]? = some (ys[j]'(by omega)) := List.getElem?_eq_getElem (by omega)
      have h1 := hf j f hj
      rw [ho, hk, show (cs'.drop j).take 1 = [cs'[j]'(by omega)] by rw [List.drop_eq_getElem_cons (by omega)]; rfl, hys] at h1
      refine ⟨_, _, by rw [← add_add, hat j hjl, hv], h1, fun n hn => hw n ?_⟩
      simp only [DataW.weights, ht]
      refine List.mem_cons_of_mem _ (List.mem_append_left _ (weights_all (List.mem_map.2 ⟨i, List.mem_range.2 hi, rfl⟩) _ ?_))
      rw [hxy.1]
      simp only [DataW.weights, he]
      exact DataW.weights_mem_each (j := j) (by simp [hj]) (by simp [hys]) n hn
    refine ⟨_, len, rfl, hr, ?_⟩
    rcases Nat.eq_zero_or_pos len with rfl | hp
    · exact slAt_none _ _ _ _ _ ⟨hcm, fun h => by cases h⟩ rfl
    · have ha' : a = ⟨a.block, a.off, none⟩ := by
        obtain ⟨fu, h0⟩ := one 0 hp
        obtain ⟨v, y, hv, _⟩ := h0 0 _ (Array.getElem?_eq_getElem hpos)
        have ha := spot_none hv
        obtain ⟨b, o, s⟩ := a
        simp [Addr.add] at ha
        simp [ha]
      rw [ha']
      refine slAt_some hlc hcm fun i hi => ?_
      obtain ⟨fu, h0⟩ := one i hi
      refine ⟨fu, fun j f hj => ?_⟩
      obtain ⟨v, y, hv, h2⟩ := h0 j f hj
      rw [add_none a ha', ← Nat.add_assoc] at hv
      exact ⟨v, y, hv, h2⟩
/-- from places to a list -/
theorem list_at {α : Type} [Inhabited α] {n : Nat} {s : Value} {sz : Nat} {q : Nat → Nat → Nat → Prop} {r : Nat → Nat → α → Prop} (h : SlAt s n sz q) (hq : ∀ b o i, i < n → q b o i → ∃ x, r b o x) :
    ∃ l : List α, l.length = n ∧ SlAt s n sz fun b o i => ∀ x, l[i]? = some x → r b o x := by
  obtain ⟨o, cap, b, off, rfl, h1, h2, h3, h4⟩ := h
  obtain ⟨f, hf⟩ := choose_lt (fun i hi => hq b (off + i * sz) i hi (h4 i hi))
  refine ⟨(List.range n).map f, by simp, o, cap, b, off, rfl, h1, h2, h3, fun i hi x hx => ?_⟩
  simp [hi] at hx
  subst hx
  exact hf i hi
instance : Inhabited Ex := ⟨⟨0, 0, 0, 0, ⟨#[]⟩, ⟨#[]⟩, 0, [], 0⟩⟩
instance : Inhabited It := ⟨⟨0, ⟨#[]⟩, 0, 0, 0, [], ⟨#[]⟩, ⟨#[]⟩, 0⟩⟩
instance : Inhabited Pa := ⟨⟨⟨#[]⟩, 0⟩⟩
instance : Inhabited De := ⟨⟨0, ⟨#[]⟩, [], [], 0, 0, 0⟩⟩
theorem f_int {fu : Nat} {v : Value} {y : DataW H × List MemPlace} (h : DataW.trod enc Tryz.prog w 0 (fun _ => true) true fu 3 [v] = some y) : ∃ n, v = .int .i64 n ∧ i64ok n := by
  obtain ⟨n, h1, _, h3⟩ := DataW.trod_int Tryz.underlying3 h
  exact ⟨n, by simpa using h1, wf_i64 h3⟩
theorem f_int64 {fu : Nat} {v : Value} {y : DataW H × List MemPlace} (h : DataW.trod enc Tryz.prog w 0 (fun _ => true) true fu 2 [v] = some y) : ∃ n, v = .int .i64 n ∧ i64ok n := by
  obtain ⟨n, h1, _, h3⟩ := DataW.trod_int Tryz.underlying2 h
  exact ⟨n, by simpa using h1, wf_i64 h3⟩
theorem f_str {fu : Nat} {v : Value} {y : DataW H × List MemPlace} (h : DataW.trod enc Tryz.prog w 0 (fun _ => true) true fu 9 [v] = some y) (hw : ∀ n ∈ y.1.weights Tryz.prog 9, n ≤ reachBytes) : ∃ s : ByteArray, v = .string s ∧ s.size ≤ reachN := by
  obtain ⟨s, h1, rfl, h3⟩ := DataW.trod_string Tryz.underlying9 h
  refine ⟨s, by simpa using h1, reach_le (hw _ ?_)⟩
  simp [DataW.weights]
theorem f_ints {fu : Nat} {v : Value} {y : DataW H × List MemPlace} (h : DataW.trod enc Tryz.prog w 0 (fun _ => true) true fu 44 [v] = some y) (hw : ∀ n ∈ y.1.weights Tryz.prog 44, n ≤ reachBytes) : ∃ l, IntsAt w v l ∧ l.length ≤ reachN ∧ ∀ n ∈ l, i64ok n := by
  obtain ⟨s, l, h1, h2⟩ := open_intsAt h hw
  obtain rfl : v = s := by simpa using h1
  exact ⟨l, h2⟩
theorem f_strs {fu : Nat} {v : Value} {y : DataW H × List MemPlace} (h : DataW.trod enc Tryz.prog w 0 (fun _ => true) true fu 63 [v] = some y) (hw : ∀ n ∈ y.1.weights Tryz.prog 63, n ≤ reachBytes) : ∃ l, StrsAt w v l ∧ l.length ≤ reachN ∧ ∀ s ∈ l, s.size ≤ reachN := by
  obtain ⟨s, l, h1, h2⟩ := open_strsAt h hw
  obtain rfl : v = s := by simpa using h1
  exact ⟨l, h2⟩

theorem open_exs {fuel : Nat} {cs : List Value} {x : DataW H × List MemPlace} (h : DataW.trod enc Tryz.prog w 0 (fun _ => true) true fuel 24 cs = some x) (hw : ∀ n ∈ x.1.weights Tryz.prog 24, n ≤ reachBytes) :
    ∃ s l, cs = [s] ∧ ExsAt w s l ∧ l.length ≤ reachN := by
  obtain ⟨s, n, rfl, hn, hs⟩ := open_fieldsAt Tryz.underlying24 Tryz.underlying46 (by kernel_rfl) (by kernel_rfl) (by decide) (of_decide_eq_true (by kernel_rfl)) h hw
  obtain ⟨l, rfl, hl⟩ := list_at (r := ExAt w) hs (fun b o i _ ⟨fu, hf⟩ => by
    obtain ⟨v0, y0, c0, t0, w0⟩ := hf 0 _ rfl
    obtain ⟨v1, y1, c1, t1, w1⟩ := hf 1 _ rfl
    obtain ⟨v2, y2, c2, t2, w2⟩ := hf 2 _ rfl
    obtain ⟨v3, y3, c3, t3, w3⟩ := hf 3 _ rfl
    obtain ⟨v4, y4, c4, t4, w4⟩ := hf 4 _ rfl
    obtain ⟨v5, y5, c5, t5, w5⟩ := hf 5 _ rfl
    obtain ⟨v6, y6, c6, t6, w6⟩ := hf 6 _ rfl
    obtain ⟨v7, y7, c7, t7, w7⟩ := hf 7 _ rfl
    obtain ⟨v8, y8, c8, t8, w8⟩ := hf 8 _ rfl
    obtain ⟨n0, rfl, k0⟩ := f_int t0
    obtain ⟨n1, rfl, k1⟩ := f_int t1
    obtain ⟨n2, rfl, k2⟩ := f_int t2
    obtain ⟨n3, rfl, k3⟩ := f_int t3
    obtain ⟨n4, rfl, k4⟩ := f_str t4 w4
    obtain ⟨n5, rfl, k5⟩ := f_str t5 w5
    obtain ⟨n6, rfl, k6⟩ := f_int64 t6
    obtain ⟨n7, k7, j7, i7⟩ := f_ints t7 w7
    obtain ⟨n8, rfl, k8⟩ := f_int t8
    exact ⟨⟨n0, n1, n2, n3, n4, n5, n6, n7, n8⟩, v7, c0, c1, c2, c3, c4, c5, c6, c7, c8, k7, ⟨k0, k1, k2, k3, k6, k4, k5, j7, i7⟩⟩)
  exact ⟨s, l, rfl, hl, hn⟩
theorem open_its {fuel : Nat} {cs : List Value} {x : DataW H × List MemPlace} (h : DataW.trod enc Tryz.prog w 0 (fun _ => true) true fuel 55 cs = some x) (hw : ∀ n ∈ x.1.weights Tryz.prog 55, n ≤ reachBytes) :
    ∃ s, ∃ l : List It, cs = [s] ∧ SlAt s l.length 9 (fun b o i => ∀ y, l[i]? = some y → ItAt w b o y) ∧ l.length ≤ reachN := by
  obtain ⟨s, n, rfl, hn, hs⟩ := open_fieldsAt Tryz.underlying55 Tryz.underlying65 (by kernel_rfl) (by kernel_rfl) (by decide) (of_decide_eq_true (by kernel_rfl)) h hw
  obtain ⟨l, rfl, hl⟩ := list_at (r := ItAt w) hs (fun b o i _ ⟨fu, hf⟩ => by
    obtain ⟨v0, y0, c0, t0, w0⟩ := hf 0 _ rfl
    obtain ⟨v1, y1, c1, t1, w1⟩ := hf 1 _ rfl
    obtain ⟨v2, y2, c2, t2, w2⟩ := hf 2 _ rfl
    obtain ⟨v3, y3, c3, t3, w3⟩ := hf 3 _ rfl
    obtain ⟨v4, y4, c4, t4, w4⟩ := hf 4 _ rfl
    obtain ⟨v5, y5, c5, t5, w5⟩ := hf 5 _ rfl
    obtain ⟨v6, y6, c6, t6, w6⟩ := hf 6 _ rfl
    obtain ⟨v7, y7, c7, t7, w7⟩ := hf 7 _ rfl
    obtain ⟨v8, y8, c8, t8, w8⟩ := hf 8 _ rfl
    obtain ⟨n0, rfl, k0⟩ := f_int t0
    obtain ⟨n1, rfl, k1⟩ := f_str t1 w1
    obtain ⟨n2, rfl, k2⟩ := f_int t2
    obtain ⟨n3, rfl, k3⟩ := f_int t3
    obtain ⟨n4, rfl, k4⟩ := f_int t4
    obtain ⟨n5, k5, j5, i5⟩ := f_strs t5 w5
    obtain ⟨n6, rfl, k6⟩ := f_str t6 w6
    obtain ⟨n7, rfl, k7⟩ := f_str t7 w7
    obtain ⟨n8, rfl, k8⟩ := f_int t8
    exact ⟨⟨n0, n1, n2, n3, n4, n5, n6, n7, n8⟩, v5, c0, c1, c2, c3, c4, c5, c6, c7, c8, k5, ⟨k0, k3, k4, k1, k6, k7, j5, i5⟩⟩)
  exact ⟨s, l, rfl, hl, hn⟩
theorem open_pas {fuel : Nat} {cs : List Value} {x : DataW H × List MemPlace} (h : DataW.trod enc Tryz.prog w 0 (fun _ => true) true fuel 54 cs = some x) (hw : ∀ n ∈ x.1.weights Tryz.prog 54, n ≤ reachBytes) :
    ∃ s, ∃ l : List Pa, cs = [s] ∧ SlAt s l.length 2 (fun b o i => ∀ y, l[i]? = some y → PaAt w b o y) ∧ l.length ≤ reachN := by
  obtain ⟨s, n, rfl, hn, hs⟩ := open_fieldsAt Tryz.underlying54 Tryz.underlying62 (by kernel_rfl) (by kernel_rfl) (by decide) (of_decide_eq_true (by kernel_rfl)) h hw
  obtain ⟨l, rfl, hl⟩ := list_at (r := PaAt w) hs (fun b o i _ ⟨fu, hf⟩ => by
    obtain ⟨v0, y0, c0, t0, w0⟩ := hf 0 _ rfl
    obtain ⟨v1, y1, c1, t1, w1⟩ := hf 1 _ rfl
    obtain ⟨n0, rfl, k0⟩ := f_str t0 w0
    obtain ⟨n1, rfl, k1⟩ := f_int t1
    exact ⟨⟨n0, n1⟩, c0, c1, k0, k1⟩)
  exact ⟨s, l, rfl, hl, hn⟩
theorem open_des {fuel : Nat} {cs : List Value} {x : DataW H × List MemPlace} (h : DataW.trod enc Tryz.prog w 0 (fun _ => true) true fuel 23 cs = some x) (hw : ∀ n ∈ x.1.weights Tryz.prog 23, n ≤ reachBytes) :
    ∃ s l, cs = [s] ∧ DesAt w s l ∧ l.length ≤ reachN := by
  obtain ⟨s, n, rfl, hn, hs⟩ := open_fieldsAt Tryz.underlying23 Tryz.underlying57 (by kernel_rfl) (by kernel_rfl) (by decide) (of_decide_eq_true (by kernel_rfl)) h hw
  obtain ⟨l, rfl, hl⟩ := list_at (r := DeAt w) hs (fun b o i _ ⟨fu, hf⟩ => by
    obtain ⟨v0, y0, c0, t0, w0⟩ := hf 0 _ rfl
    obtain ⟨v1, y1, c1, t1, w1⟩ := hf 1 _ rfl
    obtain ⟨v2, y2, c2, t2, w2⟩ := hf 2 _ rfl
    obtain ⟨v3, y3, c3, t3, w3⟩ := hf 3 _ rfl
    obtain ⟨v4, y4, c4, t4, w4⟩ := hf 4 _ rfl
    obtain ⟨v5, y5, c5, t5, w5⟩ := hf 5 _ rfl
    obtain ⟨v6, y6, c6, t6, w6⟩ := hf 6 _ rfl
    obtain ⟨n0, rfl, k0⟩ := f_int t0
    obtain ⟨n1, rfl, k1⟩ := f_str t1 w1
    obtain ⟨s2, n2, e2, k2, j2⟩ := open_pas t2 w2
    obtain rfl : v2 = s2 := by simpa using e2
    obtain ⟨s3, n3, e3, k3, j3⟩ := open_its t3 w3
    obtain rfl : v3 = s3 := by simpa using e3
    obtain ⟨n4, rfl, k4⟩ := f_int t4
    obtain ⟨n5, rfl, k5⟩ := f_int t5
    obtain ⟨n6, rfl, k6⟩ := f_int t6
    exact ⟨⟨n0, n1, n2, n3, n4, n5, n6⟩, v2, v3, c0, c1, c2, c3, c4, c5, c6, k2, k3, ⟨k0, k5, k1, j2, j3⟩⟩)
  exact ⟨s, l, rfl, hl, hn⟩
set_option maxRecDepth 100000 in
/-- a program that came in, opened -/
theorem open_prog {r : Reach} {v : Value} {d : DataW H} {ps : List MemPlace} (hv : Value.okWide Tryz.prog w r 0 26 v) (h : DataW.Trod enc Tryz.prog w 0 (fun _ => true) true 26 v d ps) (hw : ∀ n ∈ d.weights Tryz.prog 26, n ≤ reachBytes) :
    ∃ sd se p, v = .agg #[sd, se] ∧ ProgAt w sd se p := by
  obtain ⟨v0, v1, y0, y1, n, rfl, rfl, rfl, h0, h1⟩ := Go.Joins.open_agg2 Tryz.underlying26 (by kernel_rfl) (by kernel_rfl) hv h
  have w0 : ∀ n ∈ y0.1.weights Tryz.prog 23, n ≤ reachBytes := fun n hn => hw n (by
    simp only [DataW.weights, Tryz.underlying26]
    exact DataW.weights_mem_each (j := 0) rfl rfl n hn)
  have w1 : ∀ n ∈ y1.1.weights Tryz.prog 24, n ≤ reachBytes := fun n hn => hw n (by
    simp only [DataW.weights, Tryz.underlying26]
    exact DataW.weights_mem_each (j := 1) rfl rfl n hn)
  obtain ⟨s0, l0, e0, k0, j0⟩ := open_des h0 w0
  obtain rfl : v0 = s0 := by simpa using e0
  obtain ⟨s1, l1, e1, k1, j1⟩ := open_exs h1 w1
  obtain rfl : v1 = s1 := by simpa using e1
  exact ⟨v0, v1, ⟨l0, l1⟩, rfl, k0, k1, j0, j1⟩
end
end Go.Proofs.YtlbhlncipajapaaGreatDoor
