/- met's iterator. -/
import Derived.Test.YtiilgehdkanmnaaMetKit
import Derived.Test.YtiilgehdkanmnaaShelf
import Derived.Test.YtiilgehdkanmnaaRangeW
import Derived.Test.YtiilgehdkanmnaaAstRefMayP
namespace Go.Proofs.Ytiilgehdkanmnaa
open Go.RowKit Go.Shelf

attribute [local go_sem] Oper.semAt_some

theorem bool_info : (Try.prog.info? 4).map (fun i => (i.zero, i.size, i.bytes)) = some (some (.bool false), 1, 1) := by kernel_rfl
theorem run_make_bools (n : Nat) (hn : n ≤ 1000000) (W : World) : (Instr.makeSlice 86 (.int .i64 (n : Int)) (.int .i64 (n : Int))).run Try.prog W = .ok (.slice (some ⟨W.heap.size, 0, none⟩) n n) (W.alloc (.cells (madeCells #[.bool false] n) 4)) := by
  obtain ⟨i, h2, h3, h4, h5⟩ := info_parts bool_info
  have hr := run_make (P := Try.prog) W 86 4 i _ Try.underlying86 h2 h3 .i64 .i64 n n (by omega) (by omega) (by rw [h5]; omega) (by omega)
  simp only [Int.toNat_natCast, h4, Nat.mul_one] at hr
  exact hr
/-- how many are not yet met -/
def free (e : Nat) (S : List Nat) : Nat := (List.range (e + 1)).countP fun j => !decide (j ∈ S)
def isNot : Value → Bool
  | .bool false => true
  | _ => false
def openN (s0 : Nat) (X : World) : Nat := match X.heap[s0]? with
  | some (.cells cs _ _) => cs.toList.countP isNot
  | _ => 0
def lenV : Value → Nat
  | .slice _ n _ => n
  | _ => 0
theorem MetMem.open {M : Nat → Prop} {rw : World → Option Nat} {w : World} {s0 e : Nat} {S L : List Nat} {v : Value} {X : World} (h : MetMem M rw w s0 e S L v X) : openN s0 X = free e S := by
  obtain ⟨cs, h1, h2, h3⟩ := h.seen
  unfold openN free
  rw [h1]
  have : cs.toList = (List.range (e + 1)).map fun j => Value.bool (decide (j ∈ S)) := by
    apply List.ext_getElem?
    intro j
    rw [Array.getElem?_toList, List.getElem?_map]
    by_cases hj : j < e + 1
    · rw [h3 j hj, List.getElem?_range hj]; rfl
    · rw [Array.getElem?_eq_none (by omega), List.getElem?_eq_none (by simp; omega)]; rfl
  show cs.toList.countP isNot = _
  rw [this, List.countP_map]
  congr 1
  funext j
  show isNot (.bool (decide (j ∈ S))) = _
  cases decide (j ∈ S) <;> rfl
theorem free_cons (e n : Nat) (S : List Nat) (hn : n ∉ S) : ∀ m, (n < m → (List.range m).countP (fun j => !decide (j ∈ n :: S)) + 1 = (List.range m).countP (fun j => !decide (j ∈ S))) ∧ (m ≤ n → (List.range m).countP (fun j => !decide (j ∈ n :: S)) = (List.range m).countP (fun j => !decide (j ∈ S)))
  | 0 => ⟨fun h => by omega, fun _ => rfl⟩
  | m + 1 => by
    obtain ⟨h1, h2⟩ := free_cons e n S hn m
    rw [List.range_succ, List.countP_append, List.countP_append, List.countP_singleton, List.countP_singleton]
    refine ⟨fun h => ?_, fun h => ?_⟩
    · by_cases hm : n = m
      · subst hm
        rw [h2 (Nat.le_refl _), if_neg (by simp), if_pos (by simpa using hn)]
      · have := h1 (by omega)
        have hiff : (m ∈ n :: S) ↔ m ∈ S := by simp [Ne.symm hm]
        simp only [hiff]; omega
    · have := h2 (by omega)
      have hiff : (m ∈ n :: S) ↔ m ∈ S := by simp; omega
      simp only [hiff]; omega
theorem free_less {e n : Nat} {S : List Nat} (hn : n ∉ S) (he : n ≤ e) : free e (n :: S) + 1 = free e S := (free_cons e n S hn (e + 1)).1 (by omega)
theorem ahead_of {p : Pr} (h : mayP p = true) : Ahead p := by
  intro e z hz
  unfold partsN at hz
  cases hx : p.exprs[e]? with
  | none => rw [hx] at hz; cases hz
  | some x =>
    rw [hx] at hz
    obtain ⟨y, hy, rfl⟩ := List.mem_map.1 hz
    have := may_part h hx y hy
    omega
theorem parts_nat {p : Pr} (h : mayP p = true) {k : Nat} {x : Ex} (hx : p.exprs[k]? = some x) : (partsE x).map intV = (partsN p k).map natV := by
  unfold partsN
  rw [hx]
  show _ = ((partsE x).map Int.toNat).map natV
  rw [List.map_map]
  apply List.map_congr_left
  intro z hz
  have := may_part h hx z hz
  show Value.int .i64 z = Value.int .i64 ((z.toNat : Nat) : Int)
  rw [Int.toNat_of_nonneg this.1]
theorem grown_set (X : World) (b i : Nat) (v : Value) : X.grownBy (X.setCell ⟨b, i, none⟩ v) (some b) :=
  ⟨rfl, rfl, rfl, ((Below.refl 0 X).setCell (p := ⟨b, i, none⟩) (Nat.zero_le _) v).size, fun k _ hne => set_other X b k i v fun h => hne (by rw [h])⟩
theorem grown_setCells (g : Nat) : ∀ (vs : List Value) (o : Nat) (X : World), X.grownBy (X.setCells g o vs) (some g)
  | [], _, _ => ⟨rfl, rfl, rfl, Nat.le_refl _, fun _ _ _ => rfl⟩
  | v :: vs, o, X => by
    have h1 := grown_set X g o v
    have h2 := grown_setCells g vs (o + 1) (X.setCell ⟨g, o, none⟩ v)
    exact ⟨h2.os.trans h1.os, h2.tape.trans h1.tape, h2.output.trans h1.output, Nat.le_trans h1.size h2.size, fun k hk hne => (h2.block k (Nat.lt_of_lt_of_le hk h1.size) hne).trans (h1.block k hk hne)⟩
/-- between two rounds of met -/
def MetJ (M : Nat → Prop) (rw : World → Option Nat) (w : World) (s0 e : Nat) (p : Pr) (J : List {z : Nat // z ≤ e} → World → Prop) (S L : List Nat) (pre : List {z : Nat // z ≤ e}) (v : Value) (X : World) : Prop :=
  MetMem M rw w s0 e S L v X ∧ J pre X ∧ pre.map (·.1) ++ still p S L.reverse = metP p e ∧ MetOk p S L.reverse ∧ (∀ z ∈ L, z ≤ e) ∧ L.length + 1000 * free e S ≤ 1 + 1000 * (e + 1)
theorem MetMem.slice {M : Nat → Prop} {rw : World → Option Nat} {w : World} {s0 e : Nat} {S L : List Nat} {v : Value} {X : World} (h : MetMem M rw w s0 e S L v X) : ∃ o cap, v = .slice o L.length cap := by
  rcases h.left.2 with ⟨h1, h2⟩ | ⟨g, cap, cur, h1, _⟩
  · exact ⟨none, 0, by rw [h1, h2]⟩
  · exact ⟨_, _, h1⟩
theorem MetMem.start {M : Nat → Prop} {rw : World → Option Nat} {w : World} (hA : Aside M rw w) {W : World} (hW : Below w.heap.size w W) (e : Nat) :
    MetMem M rw w W.heap.size e [] [e] (.slice (some ⟨W.heap.size + 1, 0, none⟩) 1 1) ((W.alloc (.cells (madeCells #[.bool false] (e + 1)) 4)).alloc (.cells #[.int .i64 (e : Int)] 3)) := by
  have z1 : (W.alloc (.cells (madeCells #[.bool false] (e + 1)) 4)).heap.size = W.heap.size + 1 := World.size_alloc _ _
  have z2 : ((W.alloc (.cells (madeCells #[.bool false] (e + 1)) 4)).alloc (.cells #[.int .i64 (e : Int)] 3)).heap.size = W.heap.size + 2 := by rw [World.size_alloc, z1]
  have hb : ∀ k, k < w.heap.size → ((W.alloc (.cells (madeCells #[.bool false] (e + 1)) 4)).alloc (.cells #[.int .i64 (e : Int)] 3)).heap[k]? = w.heap[k]? := fun k hk => by
    have := hW.size
    rw [heap_old _ _ _ (by omega), heap_old _ _ _ (by omega)]; exact hW.block k hk
  have hr := hA.same w _ hb
  have a2 := World.alloc_heap_new (W.alloc (.cells (madeCells #[.bool false] (e + 1)) 4)) (.cells #[.int .i64 (e : Int)] 3)
  rw [z1] at a2
  refine ⟨hW.size, by rw [z2]; omega, fun k h1 _ _ => hb k h1, fun k hk => .inl (hr ▸ hk), fun k hk => ?_, ⟨madeCells #[.bool false] (e + 1), ?_, by simp [madeCells], fun j hj => ?_⟩, ⟨rfl, .inr ⟨_, 1, _, rfl, Nat.le_refl _, a2, Nat.le_refl _, by unfold maxLen; omega, rfl, rfl⟩⟩, fun g h1 h2 => ?_⟩
  · rw [hr] at hk; have := hA.row k hk; have := hW.size; rw [z2]; omega
  · rw [heap_old _ _ _ (by rw [z1]; omega)]; exact World.alloc_heap_new W _
  · rw [← Array.getElem?_toList, toList_madeCells_one, List.getElem?_replicate, if_pos hj]; rfl
  · have hg : W.heap.size + 1 = g := by simpa [Value.ownBlock] using h1
    subst hg
    rw [hr] at h2; have := hA.row _ h2; have := hW.size; omega
set_option maxHeartbeats 8000000 in
set_option maxRecDepth 100000 in
theorem met_core (F : Fence) (n : Nat) (hF : F = Fence.wide) (hn : 1 ≤ n) (p : Pr) (o1 : Option Addr) (m dcap b off nn cap e B E : Nat) (hnn : Hid (p.exprs.length = nn)) (nl : (nn : Int) ≤ 300) (he : e < nn) (w0 w : World)
    (M : Nat → Prop) (rw : World → Option Nat) (hA : Hid (Aside M rw w)) (hlow : Hid (∀ k, (M k ∨ rw w = some k) → w0.heap.size ≤ k)) (hw0 : Hid (Below w0.heap.size w0 w))
    (hB : Hid (Still M rw w B)) (hE : Hid (Still M rw w E)) (hBc : Hid (w.heap[B]? = some (.cells #[.slice o1 m dcap, .slice (some ⟨b, off, none⟩) nn cap] 25 (0, 0)))) (hEc : Hid (w.heap[E]? = some (.cells #[.int .i64 (e : Int)] 3 (0, 0))))
    (hc : Hid (∀ i, i < nn → ∀ x, p.exprs[i]? = some x → ExAt w0 b (off + i * 9) x)) (hS : Hid (Small p)) (hm : Hid (mayP p = true)) (lp : Nat) (J Jx : List {z : Nat // z ≤ e} → World → Prop)
    (W : World) (hW : Hid (Below w.heap.size w W)) (hJ : Hid (AbidesW (fun X k => rw X = some k) W.heap.size J))
    (hY : Hid (∀ pre (z : {z : Nat // z ≤ e}) W1, J pre W1 → pre.length < (metP p e).length → YieldAt F (n - 1) Try.prog lp #[.int .i64 (z.1 : Int)] W1 fun r W' =>
      (r = .returned (.bool true) ∧ J (pre ++ [z]) W' ∧ KeepM M rw w.heap.size W1 W') ∨ (r = .returned (.bool false) ∧ Jx (pre ++ [z]) W')))
    (h0 : Hid (J [] W)) :
    CallsIn F n Try.prog 49 #[.func (.yield lp) #[] #[], .pointer (some ⟨E, 0, none⟩), .pointer (some ⟨B, 0, none⟩)] W fun r W' => (∃ v, r = .returned v) ∧
      ((∃ ys : List {z : Nat // z ≤ e}, ys.map (·.1) = metP p e ∧ J ys W') ∨ (∃ pre : List {z : Nat // z ≤ e}, pre.map (·.1) <+: metP p e ∧ Jx pre W')) := by
  subst hF
  have hn1 : 1 ≤ n := by omega
  have hEW : W.heap[E]? = some (.cells #[.int .i64 (e : Int)] 3 (0, 0)) := (hW.out.block _ hE.out.1).trans hEc.out
  have hElt := lt_of_heap hEW
  have ce : W.cell? ⟨E, 0, none⟩ = some (.int .i64 (e : Int)) := by simp [World.cell?, hEW]
  have ce2 : (W.alloc (.cells (madeCells #[.bool false] (e + 1)) 4)).cell? ⟨E, 0, none⟩ = some (.int .i64 (e : Int)) := by
    simp [World.cell?, heap_old _ _ _ hElt, hEW]
  clear hEW hElt
  have hmk := run_make_bools (e + 1) (by omega)
  rw [Int.natCast_add, Int.natCast_one] at hmk
  refine callsIn_of_wp Try.func49 rfl trivial ?_ rfl
  simp only [Try.ntmps49, List.size_toArray, List.length_cons, List.length_nil, Nat.reduceAdd, Nat.reduceSub, Array.replicate_succ, Array.replicate_zero, List.push_toArray, List.append_toArray, List.nil_append, List.cons_append]
  have hst := Lib.hid (MetMem.start hA.out hW.out e)
  have hJ0 := Lib.hid (hJ.out.alloc (.cells #[.int .i64 (e : Int)] 3) (hJ.out.alloc (.cells (madeCells #[.bool false] (e + 1)) 4) h0.out))
  have hfree : Hid (free e [] ≤ e + 1) := Lib.hid (by unfold free; exact Nat.le_trans (List.countP_le_length ..) (by simp))
  gi_wp2_with (fail)
  clear ce ce2 hmk
  gi_loopw [5] (fun v wr => ∃ (S L : List Nat) (pre : List {z : Nat // z ≤ e}) (o : Option Addr) (k cap' : Nat), v = .slice o k cap' ∧ Hid (k = L.length) ∧ Hid (MetJ M rw w W.heap.size e p J S L pre (.slice o k cap') wr)) (fun v wr => openN W.heap.size wr * 1002 + lenV v)
  case atStart => exact ⟨[], [e], [], _, _, _, rfl, Lib.hid rfl, Lib.hid ⟨hst.out, hJ0.out, rfl, metOk_one p e, fun z hz => by simp at hz; omega, by have := hfree.out; simp; omega⟩⟩
  case round =>
    clear hst hJ0 hfree
    obtain ⟨S, L, pre, o, k, cap', rfl, hk, hr⟩ := hrel
    rcases List.eq_nil_or_concat L with rfl | ⟨L', z, rfl⟩
    · obtain rfl : k = 0 := hk.out
      gi_wp2
      go_end0
      exact ⟨⟨_, rfl⟩, .inl ⟨pre, by have := hr.out.2.2.1; simpa [still, fresh] using this, hr.out.2.1⟩⟩
    · rw [List.concat_eq_append] at hk hr
      obtain ⟨g, cap, hv, hkc, hcm, hgb, y1, hmem⟩ := hr.out.1.top
      obtain ⟨kk, hkk⟩ : ∃ kk, kk = L'.length := ⟨_, rfl⟩
      rw [← hkk] at hv hkc y1 hmem
      cases hv
      obtain ⟨_, hJp, hpre, hok, hle, hlen⟩ := hr.out
      have hze : z ≤ e := hle z (by simp)
      obtain ⟨cs, s1, s2, s3⟩ := hmem.seen
      have y2 : wr.cell? ⟨W.heap.size, z, none⟩ = some (.bool (decide (z ∈ S))) := by simp [World.cell?, s1, s3 z (by omega)]
      have y3 : wr.frozen? ⟨W.heap.size, z, none⟩ = false := by simp [World.frozen?, s1]
      have hkl : (kk : Int) ≤ 400000 := by
        simp only [List.length_append, List.length_singleton] at hlen; omega
      have HM := Lib.hid hmem
      have HJ := Lib.hid hJp
      have HP := Lib.hid hpre
      have HO := Lib.hid hok
      have HL := Lib.hid hle
      have HN := Lib.hid hlen
      have HK := Lib.hid hkk
      clear hmem hJp hpre hok hle hlen hkk s1 s2 s3 cs hk hr
      have q0 : (0 : Int) < (kk : Int) + 1 := by omega
      by_cases hzS : z ∈ S
      · have d1 : decide (z ∈ S) = true := decide_eq_true hzS
        rw [d1] at y2
        gi_wp2
        have hrev : (L' ++ [z]).reverse = z :: L'.reverse := by simp
        have hsk := met_skip (p := p) (s := S) (l := L'.reverse) (n := z) (by rw [← hrev]; exact HO.out) hzS
        refine ⟨⟨S, L', pre, _, _, _, rfl, HK, Lib.hid ⟨HM.out, HJ.out, by rw [← hsk.1, ← hrev]; exact HP.out, hsk.2, fun y hy => HL.out y (by simp [hy]), by have := HN.out; simp at this; omega⟩⟩, by show _ + kk < _ + (kk + 1); omega⟩
      · have d1 : decide (z ∈ S) = false := decide_eq_false hzS
        rw [d1] at y2
        have hrev : (L' ++ [z]).reverse = z :: L'.reverse := by simp
        have hst := met_step (p := p) (ahead_of hm.out) (s := S) (l := L'.reverse) (n := z) (by rw [← hrev]; exact HO.out) hzS
        have HP2 : pre.map (·.1) ++ z :: still p (z :: S) (partsN p z ++ L'.reverse) = metP p e := by rw [← hst.1, ← hrev]; exact HP.out
        have hpl : pre.length < (metP p e).length := by rw [← HP2]; simp
        have hM2 := Lib.hid (HM.out.mark hA.out (n := z))
        have hJ2 : Hid (J pre (wr.setCell ⟨W.heap.size, z, none⟩ (.bool true))) := Lib.hid (hJ.out pre wr _ (some W.heap.size) HJ.out (grown_set wr W.heap.size z _) (fun r h => by
          cases h
          obtain ⟨cs, s1, _⟩ := HM.out.seen
          exact ⟨Nat.le_refl _, _, s1, .inr (HM.out.row_s0 hA.out)⟩))
        obtain ⟨fn, tmps, assign, body, hy, hR⟩ := hY.out pre ⟨z, hze⟩ _ hJ2.out hpl
        have hy' : (Instr.yield lp #[.int .i64 (z : Int)]).run Try.prog (wr.setCell ⟨W.heap.size, z, none⟩ (.bool true)) = .ok (.round lp fn tmps assign body) (wr.setCell ⟨W.heap.size, z, none⟩ (.bool true)) := hy
        have HR := Lib.hid hR
        have HS := Lib.hid hst
        have HQ := Lib.hid HP2
        clear hy hR hst HP2
        gi_wp2
        refine HR.out.mono ?_
        rintro r W3 (⟨rfl, hJ3, hk3⟩ | ⟨rfl, hJx3⟩)
        · have hM3 := Lib.hid (hM2.out.keep hA.out hk3)
          have HJ3 := Lib.hid hJ3
          have hb3 : Hid (∀ k, k < w0.heap.size → W3.heap[k]? = w0.heap[k]?) := Lib.hid fun k hk =>
            (hM3.out.base k (Nat.lt_of_lt_of_le hk hw0.out.size) (fun hh => by have := hlow.out k (.inl hh); omega) (fun hh => by have := hlow.out k (.inr hh); omega)).trans (hw0.out.block k hk)
          have hB3 : W3.heap[B]? = some (.cells #[.slice o1 m dcap, .slice (some ⟨b, off, none⟩) nn cap] 25 (0, 0)) := (hM3.out.base B hB.out.1 hB.out.2.1 hB.out.2.2).trans hBc.out
          have g2 : W3.cell? ⟨B, 1, none⟩ = some (.slice (some ⟨b, off, none⟩) nn cap) := by simp [World.cell?, hB3]
          obtain ⟨x, hxk⟩ : ∃ x, p.exprs[z]? = some x := ⟨_, List.getElem?_eq_getElem (by have := hnn.out; omega)⟩
          obtain ⟨oa, capa, hargs, hok, b0, b1, b2, b3, b4, b5, b6, b7, b8⟩ := ex_cells (hc.out z (by omega) x hxk)
          have on : ∀ {j : Nat} {u : Value}, w0.cell? ⟨b, j, none⟩ = some u → W3.cell? ⟨b, j, none⟩ = some u := fun h => (cell_same' (hb3.out b (World.block_lt_of_cell? _ _ h)) _).trans h
          have c0 := on b0
          have c1 := on b1
          have c2 := on b2
          have c3 := on b3
          have c4 := on b4
          have c5 := on b5
          have c6 := on b6
          have c7 := on b7
          have c8 := on b8
          have HA := Lib.hid hargs
          have HO := Lib.hid hok
          have HX := Lib.hid hxk
          have ix := ix_exs (cap := cap) (o := some ⟨b, off, none⟩) (n := nn) (b := b) (off := off) (fun _ => rfl) (show z < nn by omega) (by omega)
          unfold Ix at ix
          clear hJ3 hk3 hB3 b0 b1 b2 b3 b4 b5 b6 b7 b8 on hargs hok hxk
          gi_wp2_with (refine ⟨trivial, ?_⟩; gi_at_call 34; ((with_reducible refine (callsIn_wide.2 (parts_any _ _ _ _ _ _ _ _ _ _)).mono ?_); rintro r w2 ⟨rfl, rfl⟩))
          obtain ⟨W4, hW4⟩ : ∃ W4, W4 = W3.alloc (.cells (exCells x (.slice oa x.args.length capa)) 34) := ⟨_, rfl⟩
          have hW4b : ∀ k, k < W3.heap.size → W4.heap[k]? = W3.heap[k]? := fun k hk => by rw [hW4]; exact heap_old _ _ _ hk
          have hW4s : W4.heap.size = W3.heap.size + 1 := by rw [hW4]; exact World.size_alloc _ _
          have hM4 := Lib.hid (hM3.out.same hA.out (Y := W4) (by omega) hW4b)
          have hJ4 : Hid (J (pre ++ [⟨z, hze⟩]) W4) := Lib.hid (by rw [hW4]; exact hJ.out.alloc _ HJ3.out)
          have hsz3 : w0.heap.size ≤ W3.heap.size := by have := hM3.out.hs0; have := hM3.out.size; have := hw0.out.size; omega
          have hg4 : g < W3.heap.size := by obtain ⟨_, cur, hh⟩ := own_lt hM3.out.left (g := g) rfl; exact lt_of_heap hh
          have hSrc : Srcs W4 x W3.heap.size (fun k => (Value.slice (some ⟨g, 0, none⟩) kk cap').ownBlock = some k) :=
            srcs_at HA.out HO.out (fun k hk => (hW4b k (by omega)).trans (hb3.out k hk)) (by rw [hW4]; exact ex_boxed _ _ _) (fun k hk => by
              have : g = k := by simpa [Value.ownBlock] using hk
              subst this; have := hM3.out.hs0; have := hw0.out.size; omega) (fun hk => by
              have : g = W3.heap.size := by simpa [Value.ownBlock] using hk
              omega)
          have hown := hM4.out.left
          rw [← HK.out] at hown
          have hCA := Lib.hid (append_any x W3.heap.size (W.heap.size + 1) kk _ _ W4 hown (by have := hM4.out.size; omega) (by omega) (parts_small hS.out HX.out) hSrc)
          rw [parts_nat hm.out HX.out] at hCA
          unfold exCells at hW4
          rw [← hW4]
          clear hown hSrc
          refine ⟨trivial, ?_⟩
          with_reducible refine (callsIn_wide.2 hCA.out).mono ?_
          rintro r W5 hpost
          have hpost2 := hpost
          rw [HK.out] at hpost
          obtain ⟨v', rfl, hM5⟩ := hM4.out.push hA.out hpost
          obtain ⟨_, hv5, _, hgr, _⟩ := hpost2
          clear hv5
          have hJ5 : Hid (J (pre ++ [⟨z, hze⟩]) W5) := Lib.hid (hJ.out _ W4 W5 _ hJ4.out hgr (fun r h => by
            have hgr2 : g = r := by simpa [Value.ownBlock] using h
            subst hgr2
            obtain ⟨hh1, cur, hh2⟩ := own_lt hM4.out.left (g := g) rfl
            exact ⟨by omega, _, hh2, .inr (hM4.out.lrow g rfl)⟩))
          have hm1000 : (partsN p z).length ≤ 1000 := by
            have := parts_small hS.out HX.out
            have h2 := congrArg List.length (parts_nat hm.out HX.out)
            simp only [List.length_map] at h2
            omega
          obtain ⟨mm, hmm⟩ : ∃ mm, mm = (partsN p z).length := ⟨_, rfl⟩
          have HMM := Lib.hid hmm
          have hlen5 : (L' ++ partsN p z).length = kk + mm := by rw [List.length_append, HK.out, hmm]
          have HM5 := Lib.hid hM5
          have hleft5 := hM5.left
          rw [hlen5] at hleft5
          rw [← hmm] at hm1000
          clear hpost hgr hCA hM5 hmm
          have hless := free_less (e := e) (S := S) hzS hze
          have hfin : ∀ (v : Value) (X : World), MetMem M rw w W.heap.size e (z :: S) (L' ++ (partsN p z).reverse) v X → J (pre ++ [⟨z, hze⟩]) X → MetJ M rw w W.heap.size e p J (z :: S) (L' ++ (partsN p z).reverse) (pre ++ [⟨z, hze⟩]) v X := fun v X h1 h2 =>
            ⟨h1, h2, by rw [List.map_append, List.reverse_append, List.reverse_reverse, ← HQ.out]; simp, by rw [List.reverse_append, List.reverse_reverse]; exact HS.out.2, fun y hy => by
              rcases List.mem_append.1 hy with hy | hy
              · exact HL.out y (by simp [hy])
              · have := ahead_of hm.out z y (List.mem_reverse.1 hy); omega, by
              have := HN.out
              simp only [List.length_append, List.length_singleton] at this
              rw [List.length_append, List.length_reverse, ← HMM.out]; omega⟩
          have hcnt : ∀ (v : Value) (X : World), MetMem M rw w W.heap.size e (z :: S) (L' ++ (partsN p z).reverse) v X → openN W.heap.size X + 1 = openN W.heap.size wr := fun v X h1 => by rw [h1.open, HM.out.open]; exact hless
          rcases hleft5.2 with ⟨rfl, h00⟩ | ⟨g', cap2, cur, rfl, hbg, hgb5, hnc5, hcm5, hcs5, htk5⟩
          · obtain rfl : kk = 0 := by omega
            obtain rfl : mm = 0 := by omega
            clear hleft5
            gi_wp2_with (fail)
            · have hnil : partsN p z = [] := List.eq_nil_of_length_eq_zero HMM.out.symm
              refine ⟨trivial, ?_⟩
              with_reducible refine (callsIn_wide.2 (Try.slices_Reverse_int_empty _ _ _)).mono ?_
              rintro r W6 ⟨rfl, hw6⟩
              subst hw6
              have hT := HM5.out
              rw [show L' ++ partsN p z = L' ++ (partsN p z).reverse by rw [hnil]; rfl] at hT
              have HF := Lib.hid (hfin _ _ hT hJ5.out)
              have HC := Lib.hid (hcnt _ _ hT)
              clear hfin hcnt hT
              gi_wp2
              refine ⟨⟨z :: S, L' ++ (partsN p z).reverse, pre ++ [⟨z, hze⟩], _, _, _, rfl, Lib.hid (by have h1 := HK.out; have h2 := HMM.out; rw [List.length_append, List.length_reverse]; omega), HF⟩, ?_⟩
              have := HC.out
              show _ * 1002 + (0) < _ * 1002 + (0 + 1)
              omega
          · clear hleft5
            have q1 : (kk : Int) ≤ ((kk + mm : Nat) : Int) := by omega
            have q2 : (kk : Int) ≤ (cap2 : Int) := by omega
            have hcells : Hid (∀ j, j < mm → W5.cell? ⟨g', kk + j, none⟩ = some (.int .i64 (((partsN p z).map Int.ofNat).getD j 0))) := Lib.hid fun j hj => by
              rw [Nat.mul_one] at htk5
              have h1 : (cur.toList.take (kk + mm))[kk + j]? = some (natV ((partsN p z).getD j 0)) := by
                rw [htk5, List.map_append, List.getElem?_append_right (by simp [← HK.out]), List.length_map, ← HK.out, Nat.add_sub_cancel_left, List.getElem?_map, List.getElem?_eq_getElem (by rw [← HMM.out]; exact hj)]
                simp [List.getD, List.getElem?_eq_getElem (show j < (partsN p z).length by rw [← HMM.out]; exact hj)]
              rw [List.getElem?_take_of_lt (by omega), Array.getElem?_toList] at h1
              have h2 : ((partsN p z).map Int.ofNat).getD j 0 = (((partsN p z).getD j 0 : Nat) : Int) := by
                have hj2 : j < (partsN p z).length := by rw [← HMM.out]; exact hj
                simp [List.getD, List.getElem?_map, List.getElem?_eq_getElem hj2]
              rw [h2]
              simp [World.cell?, hgb5, h1, natV]
            have hfz : Hid (∀ j, j < mm → W5.frozen? ⟨g', kk + j, none⟩ = false) := Lib.hid fun j _ => by simp [World.frozen?, hgb5]
            gi_wp2_with (fail)
            · have hm0 : mm = 0 := by omega
              have hc2 : cap2 = kk := by omega
              subst hm0
              have hnil : partsN p z = [] := List.eq_nil_of_length_eq_zero HMM.out.symm
              refine ⟨trivial, ?_⟩
              with_reducible refine (callsIn_wide.2 (Try.slices_Reverse_int_empty _ _ _)).mono ?_
              rintro r W6 ⟨rfl, hw6⟩
              subst hw6
              have hT := HM5.out
              rw [show L' ++ partsN p z = L' ++ (partsN p z).reverse by rw [hnil]; rfl] at hT
              have HF := Lib.hid (hfin _ _ hT hJ5.out)
              have HC := Lib.hid (hcnt _ _ hT)
              clear hfin hcnt hT
              gi_wp2
              have HF2 := HF
              rw [Nat.add_zero, hc2] at HF2
              refine ⟨⟨z :: S, L' ++ (partsN p z).reverse, pre ++ [⟨z, hze⟩], _, _, _, rfl, Lib.hid (by have h1 := HK.out; have h2 := HMM.out; rw [List.length_append, List.length_reverse]; omega), (by first | exact HF | exact HF2)⟩, ?_⟩
              have := HC.out
              show _ * 1002 + (kk + 0) < _ * 1002 + (kk + 1)
              omega
            · refine ⟨trivial, ?_⟩
              have hRV := Try.slices_Reverse_int_cells g' kk mm (cap2 - kk) ((partsN p z).map Int.ofNat) W5 (by rw [List.length_map, ← HMM.out]; exact Nat.le_refl _) (by omega) (fun j hj => hcells.out j (by rw [List.length_map, ← HMM.out] at hj; exact hj)) hfz.out
              with_reducible refine (callsIn_wide.2 hRV).mono ?_
              rintro r W6 ⟨rfl, q, rfl⟩
              have hvals : (((partsN p z).map Int.ofNat).take mm).reverse.map (Value.int .i64) = (partsN p z).reverse.map natV := by
                rw [List.take_of_length_le (by rw [List.length_map, HMM.out]; exact Nat.le_refl _), ← List.map_reverse, List.map_map]; rfl
              rw [hvals]
              have hT := MetMem.turned (L := L') (ps := partsN p z) (g := g') (cap := cap2) (q := q) (by rw [← HK.out, ← HMM.out]; exact HM5.out) hA.out
              rw [← HK.out, ← HMM.out] at hT
              have hJ6 : J (pre ++ [⟨z, hze⟩]) ((W5.drewN q).setCells g' kk ((partsN p z).reverse.map natV)) := hJ.out _ (W5.drewN q) _ (some g') (hJ.out _ W5 _ none hJ5.out ⟨rfl, rfl, rfl, Nat.le_refl _, fun _ _ _ => rfl⟩ (fun r e => by cases e)) (grown_setCells g' _ _ _) (fun r h => by
                cases h
                exact ⟨by omega, _, hgb5, .inr (by
                  have h1 := HM5.out.lrow g' rfl
                  show ¬ rw (W5.drewN q) = some g'
                  rw [hA.out.same W5 (W5.drewN q) fun _ _ => rfl]
                  exact h1)⟩)
              generalize (W5.drewN q).setCells g' kk ((partsN p z).reverse.map natV) = W6 at hT hJ6 ⊢
              have HF := Lib.hid (hfin _ _ hT hJ6)
              have HC := Lib.hid (hcnt _ _ hT)
              clear hfin hcnt hvals hT hJ6 hRV
              gi_wp2
              refine ⟨⟨z :: S, L' ++ (partsN p z).reverse, pre ++ [⟨z, hze⟩], _, _, _, rfl, Lib.hid (by have h1 := HK.out; have h2 := HMM.out; rw [List.length_append, List.length_reverse]; omega), HF⟩, ?_⟩
              have := HC.out
              show _ * 1002 + (kk + mm) < _ * 1002 + (kk + 1)
              omega
        · gi_wp2
          refine bodyPost_ret (results_none rfl _ _ _) rfl ?_
          exact ⟨⟨_, rfl⟩, .inr ⟨_, ⟨still p (z :: S) (partsN p z ++ L'.reverse), by rw [← HQ.out]; simp⟩, hJx3⟩⟩
end Go.Proofs.Ytiilgehdkanmnaa
