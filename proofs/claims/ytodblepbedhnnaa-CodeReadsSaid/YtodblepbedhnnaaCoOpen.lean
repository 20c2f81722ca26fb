/- An object that came in: its cells, and what is known of them. -/
import Derived.Test.YtodblepbedhnnaaCoMath
import Derived.Test.YtodblepbedhnnaaChecked
import Derived.Deep.Slices
import Derived.Deep.Fields
import Derived.SizedLaws
import Derived.Carry
import Derived.Lib.SmallJoins
namespace Go.Proofs.Ytodblepbedhnnaa
open Go.ChangeShapes Go.WideShapes Go.Deep Go.RowKit Co

/-- the reach of what comes in -/
def reachN : Nat := 140737488351232
def CapOk (o : Option Addr) (cap : Nat) : Prop := cap ≤ maxLen ∧ (o = none → cap = 0)
/-- slice value s has n elements of so many cells, each in its place -/
def SlAt (s : Value) (n sz : Nat) (el : Nat → Nat → Nat → Prop) : Prop :=
  ∃ o cap b off, s = .slice o n cap ∧ n ≤ cap ∧ CapOk o cap ∧ (0 < n → o = some ⟨b, off, none⟩) ∧ ∀ i, i < n → el b (off + i * sz) i
theorem slAt_none (n sz cap : Nat) (o : Option Addr) (el : Nat → Nat → Nat → Prop) (hc : CapOk o cap) (h : n = 0) : SlAt (.slice o n cap) n sz el := by
  subst h; exact ⟨o, cap, 0, 0, rfl, Nat.zero_le _, hc, by omega, by omega⟩
theorem slAt_some {n sz cap b off : Nat} {el : Nat → Nat → Nat → Prop} (h1 : n ≤ cap) (h2 : cap ≤ maxLen) (h : ∀ i, i < n → el b (off + i * sz) i) : SlAt (.slice (some ⟨b, off, none⟩) n cap) n sz el := ⟨_, cap, b, off, rfl, h1, ⟨h2, fun h => by cases h⟩, fun _ => rfl, h⟩
theorem SlAt.mono {s : Value} {n sz : Nat} {p q : Nat → Nat → Nat → Prop} (h : SlAt s n sz p) (hpq : ∀ b o i, i < n → p b o i → q b o i) : SlAt s n sz q := by
  obtain ⟨o, cap, b, off, h1, h2, h3, h4, h5⟩ := h
  exact ⟨o, cap, b, off, h1, h2, h3, h4, fun i hi => hpq _ _ _ hi (h5 i hi)⟩
def IntsAt (w : World) (s : Value) (l : List Int) : Prop := SlAt s l.length 1 fun b o i => w.cell? ⟨b, o, none⟩ = some (.int .i64 (l.getD i 0))
/-- an instruction in its six cells -/
def SixAt (w : World) (b o : Nat) (x : Six) : Prop := w.cell? ⟨b, o, none⟩ = some (.int .i64 x.op) ∧ w.cell? ⟨b, o + 1, none⟩ = some (.int .i64 x.d) ∧ w.cell? ⟨b, o + 2, none⟩ = some (.int .i64 x.a) ∧
  w.cell? ⟨b, o + 3, none⟩ = some (.int .i64 x.b) ∧ w.cell? ⟨b, o + 4, none⟩ = some (.int .i64 x.c) ∧ w.cell? ⟨b, o + 5, none⟩ = some (.int .i64 x.v)
def SixesAt (w : World) (s : Value) (l : List Six) : Prop := SlAt s l.length 6 fun b o i => ∀ x, l[i]? = some x → SixAt w b o x
/-- the ten cells of an object -/
def obCells (s1 s2 s3 s4 : Value) (c f : Int) (t1 t2 t3 t4 : Value) : Array Value := #[s1, s2, s3, s4, .int .i64 c, .int .i64 f, t1, t2, t3, t4]
/-- its lists lie there -/
structure ObAt (w : World) (s1 s2 s3 s4 t1 t2 t3 t4 : Value) (o : Ob) : Prop where
  inn : IntsAt w s1 o.inn
  out : IntsAt w s2 o.out
  state : IntsAt w s3 o.state
  mem : IntsAt w s4 o.mem
  deriv : SixesAt w t1 o.deriv
  zero : SixesAt w t2 o.zero
  step : SixesAt w t3 o.step
  at_ : SixesAt w t4 o.at_
/-- nothing of it is beyond reach -/
structure ObLen (o : Ob) : Prop where
  inn : o.inn.length ≤ reachN
  out : o.out.length ≤ reachN
  state : o.state.length ≤ reachN
  mem : o.mem.length ≤ reachN
  deriv : o.deriv.length ≤ reachN
  zero : o.zero.length ≤ reachN
  step : o.step.length ≤ reachN
  at_ : o.at_.length ≤ reachN

/-! ### What lay there stays -/
theorem cell_on {w w' : World} (hb : Below w.heap.size w w') {a : Addr} {v : Value} (h : w.cell? a = some v) : w'.cell? a = some v := (hb.cell (World.block_lt_of_cell? _ _ h)).trans h
theorem IntsAt.below {w w' : World} {s : Value} {l : List Int} (h : IntsAt w s l) (hb : Below w.heap.size w w') : IntsAt w' s l := h.mono fun _ _ _ _ h => cell_on hb h
theorem SixAt.below {w w' : World} {b o : Nat} {x : Six} (h : SixAt w b o x) (hb : Below w.heap.size w w') : SixAt w' b o x := by
  obtain ⟨h0, h1, h2, h3, h4, h5⟩ := h
  exact ⟨cell_on hb h0, cell_on hb h1, cell_on hb h2, cell_on hb h3, cell_on hb h4, cell_on hb h5⟩
theorem SixesAt.below {w w' : World} {s : Value} {l : List Six} (h : SixesAt w s l) (hb : Below w.heap.size w w') : SixesAt w' s l := h.mono fun _ _ _ _ h x hx => (h x hx).below hb
theorem ObAt.below {w w' : World} {s1 s2 s3 s4 t1 t2 t3 t4 : Value} {o : Ob} (h : ObAt w s1 s2 s3 s4 t1 t2 t3 t4 o) (hb : Below w.heap.size w w') : ObAt w' s1 s2 s3 s4 t1 t2 t3 t4 o :=
  ⟨h.inn.below hb, h.out.below hb, h.state.below hb, h.mem.below hb, h.deriv.below hb, h.zero.below hb, h.step.below hb, h.at_.below hb⟩

/-! ### Opened -/
section
variable {H : Type} {enc : TypeId × Value → H} {w : World}

theorem weights_all {H : Type} {P : Program} {e : TypeId} : ∀ {l : List (DataW H)} {d : DataW H}, d ∈ l → ∀ n ∈ d.weights P e, n ∈ DataW.weightsAll P e l
  | x :: r, d, hd, n, hn => by
    simp only [DataW.weightsAll, List.mem_append]
    rcases List.mem_cons.1 hd with rfl | h
    · exact .inl hn
    · exact .inr (weights_all h n hn)
theorem spot_none {w : World} {a : Addr} {v : Value} (h : w.cell? a = some v) : a = ⟨a.block, a.off, none⟩ := by
  obtain ⟨b, o, s⟩ := a
  unfold World.cell? at h
  split at h
  · cases s with
    | none => rfl
    | some x => simp at h
  · cases h
theorem add_none (a : Addr) (h : a = ⟨a.block, a.off, none⟩) (i : Nat) : a.add i = ⟨a.block, a.off + i, none⟩ := by
  rw [h]; exact add_plain _ _ _
theorem wf_i64 {n : Int} (h : (Lit.int .i64 n).wf = true) : i64 n := by
  simp [Lit.wf, IntKind.min, IntKind.max, IntKind.signed, IntKind.bits] at h
  unfold i64; omega
theorem reach_le {n : Nat} (h : n ≤ reachBytes) : n ≤ reachN := h


theorem open_numsAt {t e : TypeId} (ht : Try.prog.underlying t = some (.slice e)) (he : Try.prog.underlying e = some (.int .i64)) (hb : Try.prog.bytesOf e = 8) (hd : Try.prog.cellsOf e = 1) {fuel : Nat} {cs : List Value} {x : DataW H × List MemPlace} (h : DataW.trod enc Try.prog w 0 (fun _ => true) true fuel t cs = some x) (hw : ∀ n ∈ x.1.weights Try.prog t, n ≤ reachBytes) :
    ∃ s l, cs = [s] ∧ IntsAt w s l ∧ l.length ≤ reachN ∧ ∀ n ∈ l, i64 n := by
  rcases open_ints ht he hd h with ⟨rfl, rfl⟩ | ⟨a, len, cap, zs, rfl, _, hlc, hcm, hz, rfl, hc, hwf⟩
  · exact ⟨_, [], rfl, slAt_none _ _ _ _ _ ⟨Nat.zero_le _, fun _ => rfl⟩ rfl, Nat.zero_le _, by simp⟩
  · simp only [if_true] at hz
    have hl : (zs.take len).length = len := by simp [hz]; omega
    have hr : len ≤ reachN := by
      have := hw ((lits .i64 (zs.take len)).length * Try.prog.bytesOf e + (lits .i64 (zs.drop len) : List (DataW H)).length * Try.prog.bytesOf e) (by
        simp only [DataW.weights, ht, ← Nat.add_mul]; exact List.mem_cons_self)
      rw [hb] at this
      have e1 : (lits .i64 (zs.take len) : List (DataW H)).length = len := by simp [lits, hz]; omega
      rw [e1] at this
      exact reach_le (by omega)
    refine ⟨_, zs.take len, rfl, ?_, by rw [hl]; exact hr, fun n hn => wf_i64 (hwf n (List.mem_of_mem_take hn))⟩
    unfold IntsAt
    rw [hl]
    rcases Nat.eq_zero_or_pos len with rfl | hp
    · exact slAt_none _ _ _ _ _ ⟨hcm, fun h => by cases h⟩ rfl
    · have h0 := hc 0 (by omega)
      have ha := spot_none h0
      have ha' : a = ⟨a.block, a.off, none⟩ := by
        obtain ⟨b, o, s⟩ := a
        simp [Addr.add] at ha
        simp [ha]
      rw [ha']
      refine slAt_some hlc hcm fun i hi => ?_
      have := hc i (by omega)
      rw [add_none a ha'] at this
      show w.cell? ⟨a.block, a.off + i * 1, none⟩ = _
      rw [Nat.mul_one, this]
      congr 2
      simp [List.getD, hi]
/-- a slice of structs whose fields are one cell each -/
theorem open_fieldsAt {t e : TypeId} {fs : Array Field} (ht : Try.prog.underlying t = some (.slice e)) (he : Try.prog.underlying e = some (.struct fs)) (hone : oneCellFields Try.prog fs = true) (hC : Try.prog.cellsOf e = fs.size) (hpos : 0 < fs.size) (hB : 0 < Try.prog.bytesOf e)
    {fuel : Nat} {cs : List Value} {x : DataW H × List MemPlace} (h : DataW.trod enc Try.prog w 0 (fun _ => true) true fuel t cs = some x) (hw : ∀ n ∈ x.1.weights Try.prog t, n ≤ reachBytes) :
    ∃ s n, cs = [s] ∧ n ≤ reachN ∧ SlAt s n fs.size fun b o _ => ∃ fu, ∀ (j : Nat) (f : Field), fs[j]? = some f → ∃ (v : Value) (y : DataW H × List MemPlace), w.cell? ⟨b, o + j, none⟩ = some v ∧
      DataW.trod enc Try.prog w 0 (fun _ => true) true fu f.type [v] = some y ∧ ∀ n ∈ y.1.weights Try.prog f.type, n ≤ reachBytes := by
  rcases open_slice ht h with ⟨rfl, rfl⟩ | ⟨a, len, cap, m, nf, D, Pl, rfl, _, hlc, hcm, hm, rfl, hel⟩
  · exact ⟨_, 0, rfl, Nat.zero_le _, slAt_none _ _ _ _ _ ⟨Nat.zero_le _, fun _ => rfl⟩ rfl⟩
  · simp only [if_true] at hm
    have hr : len ≤ reachN := by
      have := hw _ (by simp only [DataW.weights, ht]; exact List.mem_cons_self)
      simp only [List.length_map, List.length_range] at this
      have h2 : len ≤ (len + (m - len)) * Try.prog.bytesOf e := Nat.le_trans (by omega) (Nat.le_mul_of_pos_right _ hB)
      exact reach_le (Nat.le_trans h2 this)
    have one : ∀ i, i < len → ∃ fu, ∀ (j : Nat) (f : Field), fs[j]? = some f → ∃ (v : Value) (y : DataW H × List MemPlace), w.cell? (a.add (i * fs.size + j)) = some v ∧
        DataW.trod enc Try.prog w 0 (fun _ => true) true fu f.type [v] = some y ∧ ∀ n ∈ y.1.weights Try.prog f.type, n ≤ reachBytes := by
      intro i hi
      obtain ⟨cs', hcs, htr⟩ := hel i (by omega)
      rw [hC] at hcs
      obtain ⟨ys, fu, hy, hxy, hlen, hyl, hf⟩ := DataW.trod_struct he htr
      obtain ⟨_, hcl, hat⟩ := World.cells?_some hcs
      simp only [Prod.mk.injEq] at hxy
      refine ⟨fu, fun j f hj => ?_⟩
      obtain ⟨ho, hk⟩ := hone_of hone j f hj
      have hjl : j < fs.size := (Array.getElem?_eq_some_iff.1 hj).1
      have hv : cs'[j]? = some (cs'[j]'(by omega)) := List.getElem?_eq_getElem (by omega)
      have hys : ys[j]? = some (ys[j]'(by omega)) := List.getElem?_eq_getElem (by omega)
      have h1 := hf j f hj
      rw [ho, hk, show (cs'.drop j).take 1 = [cs'[j]'(by omega)] by rw [List.drop_eq_getElem_cons (by omega)]; rfl, hys] at h1
      refine ⟨_, _, by rw [← add_add, hat j hjl, hv], h1, fun n hn => hw n ?_⟩
      simp only [DataW.weights, ht]
      refine List.mem_cons_of_mem _ (List.mem_append_left _ (weights_all (List.mem_map.2 ⟨i, List.mem_range.2 hi, rfl⟩) _ ?_))
      rw [hxy.1]
      simp only [DataW.weights, he]
      exact DataW.weights_mem_each (j := j) (by simp [hj]) (by simp [hys]) n hn
    refine ⟨_, len, rfl, hr, ?_⟩
    rcases Nat.eq_zero_or_pos len with rfl | hp
    · exact slAt_none _ _ _ _ _ ⟨hcm, fun h => by cases h⟩ rfl
    · have ha' : a = ⟨a.block, a.off, none⟩ := by
        obtain ⟨fu, h0⟩ := one 0 hp
        obtain ⟨v, y, hv, _⟩ := h0 0 _ (Array.getElem?_eq_getElem hpos)
        have ha := spot_none hv
        obtain ⟨b, o, s⟩ := a
        simp [Addr.add] at ha
        simp [ha]
      rw [ha']
      refine slAt_some hlc hcm fun i hi => ?_
      obtain ⟨fu, h0⟩ := one i hi
      refine ⟨fu, fun j f hj => ?_⟩
      obtain ⟨v, y, hv, h2⟩ := h0 j f hj
      rw [add_none a ha', ← Nat.add_assoc] at hv
      exact ⟨v, y, hv, h2⟩
/-- from places to a list -/
theorem list_at {α : Type} [Inhabited α] {n : Nat} {s : Value} {sz : Nat} {q : Nat → Nat → Nat → Prop} {r : Nat → Nat → α → Prop} (h : SlAt s n sz q) (hq : ∀ b o i, i < n → q b o i → ∃ x, r b o x) :
    ∃ l : List α, l.length = n ∧ SlAt s n sz fun b o i => ∀ x, l[i]? = some x → r b o x := by
  obtain ⟨o, cap, b, off, rfl, h1, h2, h3, h4⟩ := h
  obtain ⟨f, hf⟩ := choose_lt (fun i hi => hq b (off + i * sz) i hi (h4 i hi))
  refine ⟨(List.range n).map f, by simp, o, cap, b, off, rfl, h1, h2, h3, fun i hi x hx => ?_⟩
  simp [hi] at hx
  subst hx
  exact hf i hi

theorem f_int {fu : Nat} {v : Value} {y : DataW H × List MemPlace} (h : DataW.trod enc Try.prog w 0 (fun _ => true) true fu 3 [v] = some y) : ∃ n, v = .int .i64 n ∧ i64 n := by
  obtain ⟨n, h1, _, h3⟩ := DataW.trod_int Try.underlying3 h
  exact ⟨n, by simpa using h1, wf_i64 h3⟩
theorem f_int64 {fu : Nat} {v : Value} {y : DataW H × List MemPlace} (h : DataW.trod enc Try.prog w 0 (fun _ => true) true fu 2 [v] = some y) : ∃ n, v = .int .i64 n ∧ i64 n := by
  obtain ⟨n, h1, _, h3⟩ := DataW.trod_int Try.underlying2 h
  exact ⟨n, by simpa using h1, wf_i64 h3⟩
theorem f_ints {fu : Nat} {v : Value} {y : DataW H × List MemPlace} (h : DataW.trod enc Try.prog w 0 (fun _ => true) true fu 22 [v] = some y) (hw : ∀ n ∈ y.1.weights Try.prog 22, n ≤ reachBytes) : ∃ l, IntsAt w v l ∧ l.length ≤ reachN ∧ ∀ n ∈ l, i64 n := by
  obtain ⟨s, l, h1, h2⟩ := open_numsAt Try.underlying22 Try.underlying3 (by kernel_rfl) (by kernel_rfl) h hw
  obtain rfl : v = s := by simpa using h1
  exact ⟨l, h2⟩
theorem f_int64s {fu : Nat} {v : Value} {y : DataW H × List MemPlace} (h : DataW.trod enc Try.prog w 0 (fun _ => true) true fu 23 [v] = some y) (hw : ∀ n ∈ y.1.weights Try.prog 23, n ≤ reachBytes) : ∃ l, IntsAt w v l ∧ l.length ≤ reachN ∧ ∀ n ∈ l, i64 n := by
  obtain ⟨s, l, h1, h2⟩ := open_numsAt Try.underlying23 Try.underlying2 (by kernel_rfl) (by kernel_rfl) h hw
  obtain rfl : v = s := by simpa using h1
  exact ⟨l, h2⟩
instance : Inhabited Six := ⟨⟨0, 0, 0, 0, 0, 0⟩⟩
theorem f_sixes {fu : Nat} {v : Value} {y : DataW H × List MemPlace} (h : DataW.trod enc Try.prog w 0 (fun _ => true) true fu 24 [v] = some y) (hw : ∀ n ∈ y.1.weights Try.prog 24, n ≤ reachBytes) : ∃ l, SixesAt w v l ∧ l.length ≤ reachN ∧ ∀ x ∈ l, x.ok := by
  obtain ⟨s, n, h1, hn, hs⟩ := open_fieldsAt Try.underlying24 Try.underlying59 (by kernel_rfl) (by kernel_rfl) (by decide) (of_decide_eq_true (by kernel_rfl)) h hw
  obtain rfl : v = s := by simpa using h1
  obtain ⟨l, rfl, hl⟩ := list_at (r := fun b o x => SixAt w b o x ∧ x.ok) hs (fun b o i _ ⟨fu, hf⟩ => by
    obtain ⟨v0, y0, c0, t0, w0⟩ := hf 0 _ rfl
    obtain ⟨v1, y1, c1, t1, w1⟩ := hf 1 _ rfl
    obtain ⟨v2, y2, c2, t2, w2⟩ := hf 2 _ rfl
    obtain ⟨v3, y3, c3, t3, w3⟩ := hf 3 _ rfl
    obtain ⟨v4, y4, c4, t4, w4⟩ := hf 4 _ rfl
    obtain ⟨v5, y5, c5, t5, w5⟩ := hf 5 _ rfl
    obtain ⟨n0, rfl, k0⟩ := f_int t0
    obtain ⟨n1, rfl, k1⟩ := f_int t1
    obtain ⟨n2, rfl, k2⟩ := f_int t2
    obtain ⟨n3, rfl, k3⟩ := f_int t3
    obtain ⟨n4, rfl, k4⟩ := f_int t4
    obtain ⟨n5, rfl, k5⟩ := f_int64 t5
    exact ⟨⟨n0, n1, n2, n3, n4, n5⟩, ⟨c0, c1, c2, c3, c4, c5⟩, k0, k1, k2, k3, k4, k5⟩)
  refine ⟨l, hl.mono fun b o i _ h x hx => (h x hx).1, hn, fun x hx => ?_⟩
  obtain ⟨i, hi, rfl⟩ := List.mem_iff_getElem.1 hx
  obtain ⟨_, _, _, _, _, _, _, _, h5⟩ := hl
  exact (h5 i hi _ (List.getElem?_eq_getElem hi)).2
/-- a struct by value whose fields are one cell each -/
theorem agg_fields {t : TypeId} {fs : Array Field} (he : Try.prog.underlying t = some (.struct fs)) (hone : oneCellFields Try.prog fs = true) (hC : Try.prog.cellsOf t = fs.size)
    {r : Reach} {v : Value} {d : DataW H} {ps : List MemPlace} (hv : Value.okWide Try.prog w r 0 t v) (h : DataW.Trod enc Try.prog w 0 (fun _ => true) true t v d ps) (hw : ∀ n ∈ d.weights Try.prog t, n ≤ reachBytes) :
    ∃ cs : Array Value, v = .agg cs ∧ cs.size = fs.size ∧ ∃ fu, ∀ (j : Nat) (f : Field), fs[j]? = some f → ∃ (u : Value) (y : DataW H × List MemPlace), cs[j]? = some u ∧
      DataW.trod enc Try.prog w 0 (fun _ => true) true fu f.type [u] = some y ∧ ∀ n ∈ y.1.weights Try.prog f.type, n ≤ reachBytes := by
  obtain ⟨cs, rfl, hsz⟩ := okWide_struct he hv
  rw [hC] at hsz
  obtain ⟨fuel, hf⟩ := h
  obtain ⟨ys, fu, hy, hxy, hlen, hyl, hg⟩ := DataW.trod_struct he hf
  simp only [Prod.mk.injEq] at hxy
  have hcl : (Value.agg cs).cells.toList.length = fs.size := by simpa [Value.cells] using hsz
  refine ⟨cs, rfl, hsz, fu, fun j f hj => ?_⟩
  obtain ⟨ho, hk⟩ := hone_of hone j f hj
  have hjl : j < fs.size := (Array.getElem?_eq_some_iff.1 hj).1
  have hys : ys[j]? = some (ys[j]'(by omega)) := List.getElem?_eq_getElem (by omega)
  have h1 := hg j f hj
  rw [ho, hk, hys] at h1
  refine ⟨cs[j]'(by omega), ys[j]'(by omega), Array.getElem?_eq_getElem (by omega), ?_, fun n hn => hw n ?_⟩
  · rw [← h1]
    congr 1
    simp only [Value.cells]
    rw [List.drop_eq_getElem_cons (by simpa using (show j < cs.size by omega))]
    simp
  · rw [hxy.1]
    simp only [DataW.weights, he]
    exact DataW.weights_mem_each (j := j) (by simp [hj]) (by simp [hys]) n hn
/-- an object that came in -/
theorem open_ob {r : Reach} {v : Value} {d : DataW H} {ps : List MemPlace} (hv : Value.okWide Try.prog w r 0 26 v) (h : DataW.Trod enc Try.prog w 0 (fun _ => true) true 26 v d ps) (hw : ∀ n ∈ d.weights Try.prog 26, n ≤ reachBytes) :
    ∃ s1 s2 s3 s4 t1 t2 t3 t4 o, v = .agg (obCells s1 s2 s3 s4 o.cross o.flags t1 t2 t3 t4) ∧ ObAt w s1 s2 s3 s4 t1 t2 t3 t4 o ∧ ObLen o ∧ o.ok := by
  obtain ⟨cs, rfl, hsz, fu, hf⟩ := agg_fields Try.underlying26 (by kernel_rfl) (by kernel_rfl) hv h hw
  obtain ⟨v0, y0, c0, t0, w0⟩ := hf 0 _ rfl
  obtain ⟨v1, y1, c1, t1, w1⟩ := hf 1 _ rfl
  obtain ⟨v2, y2, c2, t2, w2⟩ := hf 2 _ rfl
  obtain ⟨v3, y3, c3, t3, w3⟩ := hf 3 _ rfl
  obtain ⟨v4, y4, c4, t4, w4⟩ := hf 4 _ rfl
  obtain ⟨v5, y5, c5, t5, w5⟩ := hf 5 _ rfl
  obtain ⟨v6, y6, c6, t6, w6⟩ := hf 6 _ rfl
  obtain ⟨v7, y7, c7, t7, w7⟩ := hf 7 _ rfl
  obtain ⟨v8, y8, c8, t8, w8⟩ := hf 8 _ rfl
  obtain ⟨v9, y9, c9, t9, w9⟩ := hf 9 _ rfl
  obtain ⟨l0, k0, j0, i0⟩ := f_ints t0 w0
  obtain ⟨l1, k1, j1, i1⟩ := f_ints t1 w1
  obtain ⟨l2, k2, j2, i2⟩ := f_int64s t2 w2
  obtain ⟨l3, k3, j3, i3⟩ := f_int64s t3 w3
  obtain ⟨n4, rfl, i4⟩ := f_int t4
  obtain ⟨n5, rfl, i5⟩ := f_int t5
  obtain ⟨l6, k6, j6, i6⟩ := f_sixes t6 w6
  obtain ⟨l7, k7, j7, i7⟩ := f_sixes t7 w7
  obtain ⟨l8, k8, j8, i8⟩ := f_sixes t8 w8
  obtain ⟨l9, k9, j9, i9⟩ := f_sixes t9 w9
  have hr : reachN ≤ 9223372036854775807 := by decide
  refine ⟨v0, v1, v2, v3, v6, v7, v8, v9, ⟨l0, l1, l2, l3, n4, n5, l6, l7, l8, l9⟩, ?_, ⟨k0, k1, k2, k3, k6, k7, k8, k9⟩, ⟨j0, j1, j2, j3, j6, j7, j8, j9⟩, ⟨Nat.le_trans j0 hr, i0⟩, ⟨Nat.le_trans j1 hr, i1⟩, ⟨Nat.le_trans j2 hr, i2⟩, ⟨Nat.le_trans j3 hr, i3⟩, i4, i5, ⟨Nat.le_trans j6 hr, i6⟩, ⟨Nat.le_trans j7 hr, i7⟩, ⟨Nat.le_trans j8 hr, i8⟩, ⟨Nat.le_trans j9 hr, i9⟩⟩
  obtain ⟨l⟩ := cs
  match l, hsz with
  | [a0, a1, a2, a3, a4, a5, a6, a7, a8, a9], _ =>
    cases c0; cases c1; cases c2; cases c3; cases c4; cases c5; cases c6; cases c7; cases c8; cases c9
    rfl
end
end Go.Proofs.Ytodblepbedhnnaa
