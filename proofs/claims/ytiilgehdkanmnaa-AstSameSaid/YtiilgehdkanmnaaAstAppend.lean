/- slices.AppendSeq of the parts: they are laid behind what there was. -/
import Derived.Test.YtiilgehdkanmnaaAstParts
import Derived.RangeFuncBox
import Derived.Maps.AppendAt
namespace Go.Proofs.Ytiilgehdkanmnaa
open Go.RowKit Go.Shelf

attribute [local go_sem] Oper.semAt_some

theorem int_info : (Try.prog.info? 3).map (fun i => (i.zero, i.size, i.bytes)) = some (some (.int .i64 0), 1, 8) := by kernel_rfl
/-- the row behind an append of one number: the one there was, or a new one -/
theorem row_after {W : World} {base : Nat} {i : TypeInfo} {z : Value} {ty : TypeId} (h2 : Try.prog.info? 3 = some i) (h3 : i.zero = some z) (h4 : i.size = 1) (h5 : i.bytes = 8)
    (v : Value) (k : Nat) (xs : List Value) (hown : W.ownsRow base 3 1 v k xs) (ad : Addr) (news : List Value) (hn : news.length = 1 * 1)
    (hc : ∀ j u, news[j]? = some u → W.cell? (ad.add j) = some u) (h1c : ∀ u ∈ news, u.oneCell' = true) (hk : k ≤ 1000000000) (v' : Value) (w' : World)
    (hrun : (Builtin.append_ #[32, 32] ty #[v, .slice (some ad) 1 1]).run Try.prog W = .ok v' w') : v'.ownBlock = v.ownBlock ∨ v'.ownBlock = some W.heap.size := by
  rcases hown.2 with ⟨rfl, rfl⟩ | ⟨g, cap, cur, rfl, hbg, hg, hnc, hcm, hcs, htake⟩
  · have hr := run_append_nil (P := Try.prog) W 32 ty 3 i z Try.underlying32 h2 h3 ad 1 1 news (by rw [h4]; exact hn) hc (by omega) (by omega) (by rw [h5]; omega)
    rw [hr] at hrun
    cases hrun
    exact .inr rfl
  · by_cases hroom : k + 1 ≤ cap
    · have hr := run_append_room (P := Try.prog) W 32 ty 3 i Try.underlying32 h2 g k cap cur hg ad 1 1 news (by rw [h4]; exact hn) hc h1c hroom (by rw [h4, hcs]; omega)
      rw [hr] at hrun
      cases hrun
      exact .inl rfl
    · have holds : ∀ j u, xs[j]? = some u → W.cell? ((⟨g, 0, none⟩ : Addr).add j) = some u := hown.cells (g := g) rfl
      have hr := run_append_grow (P := Try.prog) W 32 ty 3 i z Try.underlying32 h2 h3 ⟨g, 0, none⟩ k cap xs (by rw [h4]; exact hown.1) holds ad 1 1 news (by rw [h4]; exact hn) hc (by omega) (by omega) (growslice_fits (by omega) (by rw [h5]; omega))
      rw [hr] at hrun
      cases hrun
      exact .inr rfl
theorem wpListIn_append_int {F : Fence} {n : Nat} (w : World) {ops : Array Oper} {rest : List Oper} {o : Oper} {a : Act} {Q : Exit → Act → World → Prop}
    (hg : o.guard = none) (s x : Operand) (hop : o.op = Op.call { callee := Callee.builtin Builtin.append, args := #[s, x], argTypes := #[32, 32] })
    (base : Nat) (v : Value) (k : Nat) (xs : List Value) (hs : a.eval s = v) (hown : w.ownsRow base 3 1 v k xs) (ad : Addr) (news : List Value) (hx : a.eval x = .slice (some ad) 1 1) (hn : news.length = 1 * 1)
    (hc : ∀ j u, news[j]? = some u → w.cell? (ad.add j) = some u) (h1c : ∀ u ∈ news, u.oneCell' = true) (hk : k ≤ 1000000000) (b3 : base ≤ w.heap.size)
    (hK : ∀ v' w', w'.ownsRow base 3 1 v' (k + 1) (xs ++ news) → w.grownBy w' v.ownBlock → (v'.ownBlock = v.ownBlock ∨ v'.ownBlock = some w.heap.size) → wpListIn F n Try.prog ops Q rest (a.put o.dst v') w') :
    wpListIn F n Try.prog ops Q (o :: rest) a w := by
  obtain ⟨i, h2, h3, h4, h5⟩ := info_parts int_info
  refine wpListIn_plain hg fun K hK' => ?_
  obtain ⟨v', w', hrun, r1, r2, _⟩ := run_append_own (P := Try.prog) w base 32 o.type 3 i _ 1 8 Try.underlying32 h2 h3 h4 h5 rfl (by decide) v k xs hown ad 1 1 news hn hc h1c (by unfold maxLen; omega) (by omega) b3
  have r3 := row_after h2 h3 h4 h5 v k xs hown ad news hn hc h1c hk v' w' hrun
  unfold Oper.wpIn
  refine ⟨?_, ?_⟩
  · simp [Oper.about, hop, resolve, Target.leads, Sem.run_pure]
  · rw [Oper.semAt_plain F _ _ (by rw [hop]; intro c hc'; cases hc')]
    simp [execOp, hop, resolve, invoke, builtin, hs, hx, hrun, Result.andThen]
    exact hK' _ _ (hK v' w' r1 r2 r3)
/-- the block that the slice in box B lies in -/
def rowOf (B : Nat) (W : World) : Option Nat := (W.cell? ⟨B, 0, none⟩).bind Value.ownBlock
theorem rowOf_box {W : World} {B : Nat} {T : TypeId} {v : Value} (h : Boxed W B T v) : rowOf B W = v.ownBlock := by unfold rowOf; rw [h.cell]; rfl
theorem rowOf_same {B : Nat} {X Y : World} (h : Y.heap[B]? = X.heap[B]?) : rowOf B Y = rowOf B X := by unfold rowOf; rw [cell_same' h]
theorem lt_of_heap {W : World} {k : Nat} {o : Obj} (h : W.heap[k]? = some o) : k < W.heap.size := (Array.getElem?_eq_some_iff.1 h).1
theorem set_other (W : World) (g k i : Nat) (v : Value) (h : k ≠ g) : (W.setCell ⟨g, i, none⟩ v).heap[k]? = W.heap[k]? := Below.heap_setCell W ⟨g, i, none⟩ v k h
theorem heap_old (W : World) (o : Obj) (k : Nat) (h : k < W.heap.size) : (W.alloc o).heap[k]? = W.heap[k]? := ((Below.refl W.heap.size W).alloc (Nat.le_refl _) o).block k h
theorem keepM_putObj {M : Nat → Prop} {B N : Nat} (hB : B < N) (W : World) (l : Nat) (o o' : Obj) (hl : N ≤ l) (h : W.heap[l]? = some o) (hc : o.isCells = false) : KeepM M (rowOf B) N W (W.putObj l o') := by
  have hg := grownBy_putObj' W l o'
  have hll := lt_of_heap h
  refine ⟨hg.size, fun k hk _ _ hh => hg.block k hk (fun e => ?_), fun k hk => ?_⟩
  · cases e
    rcases hh with h1 | ⟨o2, h1, h2⟩
    · omega
    · rw [h] at h1; cases h1; rw [hc] at h2; cases h2
  · rw [rowOf_same (hg.block B (by omega) (fun e => by cases e; omega))] at hk
    exact .inl hk
theorem row_kept {e : TypeId} {sz : Nat} {X Y : World} {row : Option Nat} {N base k : Nat} {v : Value} {xs : List Value} (h : X.ownsRow base e sz v k xs) (hg : X.grownBy Y row) (hr : ∀ r, row = some r → N ≤ r ∧ ∃ o : Obj, X.heap[r]? = some o ∧ o.isCells = false) : Y.ownsRow base e sz v k xs := by
  refine h.kept hg ?_
  rcases h.2 with ⟨rfl, _⟩ | ⟨g, cap, cur, rfl, _, hgb, _⟩
  · exact .inl rfl
  · refine .inr fun e' => ?_
    obtain ⟨_, o, ho, hc⟩ := hr g (by simpa [Value.ownBlock] using e'.symm)
    rw [hgb] at ho; cases ho; cases hc
theorem grown_trans' {w W W' : World} {r : Option Nat} {l : Nat} (h : w.grownBy W r) (k : W.grownBy W' (some l)) (hl : w.heap.size ≤ l) : w.grownBy W' r :=
  ⟨k.os.trans h.os, k.tape.trans h.tape, k.output.trans h.output, Nat.le_trans h.size k.size, fun i hi hr => (k.block i (Nat.lt_of_lt_of_le hi h.size) (fun e => by cases e; omega)).trans (h.block i hi hr)⟩
/-- what one append says of the row -/
def SameRow (w : World) (v v' : Value) : Prop := v'.ownBlock = v.ownBlock ∨ ∃ r, v'.ownBlock = some r ∧ w.heap.size ≤ r
def AppPost (base k : Nat) (v : Value) (xs news : List Value) (w : World) (e : Ending) (w' : World) : Prop :=
  ∃ v', e = .returned v' ∧ w'.ownsRow base 3 1 v' (k + news.length) (xs ++ news) ∧ w.grownBy w' v.ownBlock ∧ SameRow w v v'
def intV (p : Int) : Value := .int .i64 p
/-- between two rounds -/
def AInv {x : Ex} (w : World) (base k : Nat) (v : Value) (xs : List Value) (pre : List (PartOf x)) (W : World) : Prop :=
  (∃ v', Boxed W w.heap.size 32 v' ∧ W.ownsRow base 3 1 v' (k + pre.length) (xs ++ pre.map fun p => intV p.1) ∧ SameRow w v v') ∧ w.grownBy W v.ownBlock ∧ w.heap.size + 1 ≤ W.heap.size
theorem ainv_own {x : Ex} (w : World) (base k : Nat) (v : Value) (xs : List Value) : OwnFrom (w.heap.size + 1) (AInv (x := x) w base k v xs) := by
  rintro s X Y row ⟨⟨v', hv, hr, hs⟩, hg0, hN⟩ hg hrow
  have hne : ∀ b, b < w.heap.size + 1 → some b ≠ row := fun b hb e => by have := (hrow b e.symm).1; omega
  refine ⟨⟨v', hv.kept hg (hne _ (Nat.lt_succ_self _)), row_kept hr hg hrow, hs⟩, ⟨hg.os.trans hg0.os, hg.tape.trans hg0.tape, hg.output.trans hg0.output, Nat.le_trans hg0.size hg.size, fun i hi hr => (hg.block i (Nat.lt_of_lt_of_le hi hg0.size) (hne _ (by omega))).trans (hg0.block i hi hr)⟩, Nat.le_trans hN hg.size⟩
set_option maxHeartbeats 8000000 in
set_option maxRecDepth 100000 in
theorem append_core (x : Ex) (B base k : Nat) (v : Value) (xs : List Value) (w : World) (hown : Hid (w.ownsRow base 3 1 v k xs)) (hbase : Hid (base ≤ w.heap.size)) (hk : Hid (k ≤ 100000000)) (hp : Hid ((partsE x).length ≤ 1000)) (hs : Hid (Srcs w x B (fun k => v.ownBlock = some k))) :
    CallsIn Fence.wide 5 Try.prog 50 #[v, partsV B] w fun e w' => AppPost base k v xs ((partsE x).map intV) w e w' := by
  have hrow : Hid (∀ r, v.ownBlock = some r → r < w.heap.size) := Lib.hid fun r hr => (hown.out.lt r hr).2
  refine callsIn_of_wp_marks Try.func50 rfl trivial ?_ rfl
  simp only [Try.ntmps50, List.size_toArray, List.length_cons, List.length_nil, Nat.reduceAdd, Nat.reduceSub, Array.replicate_succ, Array.replicate_zero, List.push_toArray, List.append_toArray, List.nil_append, List.cons_append]
  unfold partsV
  rcases hown.out.2 with ⟨rfl, hk0⟩ | ⟨g, cap, cur, rfl, hk0⟩
  · clear hk0
    gi_wp2
    have bL := Lib.hid (Boxed.new w 32 (.slice none 0 0))
    have hAr : Around (fun j => j = w.heap.size) (rowOf w.heap.size) (w.alloc (.cells #[.slice none 0 0] 32)) := by
      refine ⟨fun j hj => ?_, fun j hj => ?_, fun W hW => ?_⟩
      · subst hj; simp
      · rw [rowOf_box bL.out] at hj
        have := hrow.out j hj
        simp; omega
      · exact rowOf_same (hW.block _ (by simp))
    have hSr : Srcs (w.alloc (.cells #[.slice none 0 0] 32)) x B (fun j => j = w.heap.size ∨ rowOf w.heap.size (w.alloc (.cells #[.slice none 0 0] 32)) = some j) := by
      obtain ⟨o, cp, ba, offa, s1, s2, s3, s4, s5, s6⟩ := hs.out
      refine ⟨o, cp, ba, offa, (heap_old _ _ _ (lt_of_heap s1)).trans s1, s2, s3, fun j hj => cell_on ((Below.refl _ _).alloc (Nat.le_refl _) _) (s4 j hj), ?_, fun hp => ?_⟩
      · rw [rowOf_box bL.out]
        rintro (h | h)
        · have := lt_of_heap s1; omega
        · exact s5 h
      · rw [rowOf_box bL.out]
        rintro (h | h)
        · have := World.block_lt_of_cell? _ _ (s4 0 hp); simp only at this; omega
        · exact s6 hp h
    have hinv : AInv (x := x) w base k (.slice none 0 0) xs [] (w.alloc (.cells #[.slice none 0 0] 32)) :=
      ⟨⟨_, bL.out, by simpa using hown.out.alloc _, .inl rfl⟩, World.grownBy_alloc _ _ _, by simp⟩
    refine wpIn_rangeFunc_ownG (α := PartOf x) rfl (by decide) (gf := 47) (lb := #[.pointer (some ⟨B, 0, none⟩)]) rfl trivial (enters_of Try.func47 (by kernel_rfl) rfl)
      (parts_stops 4 (by decide) x B _ _ _ hAr hSr) (fun h k => h.trans k) (fun W l o o' h1 h2 h3 _ => keepM_putObj (by simp) W l o o' h1 h2 h3) (Below.refl _ _) (fun _ => rfl)
      (AInv w base k (.slice none 0 0) xs) (fun _ _ _ => False) (by have := ainv_own (x := x) w base k (.slice none 0 0) xs; simpa using this) (fun _ _ _ _ _ hs _ _ => hs) hinv
      (fun p => { tmps := #[.slice none 0 0, .func (.func 47) #[] #[.pointer (some ⟨B, 0, none⟩)], .pointer (some ⟨w.heap.size, 0, none⟩), undef, .slice none 0 0, .int .i64 p.1, .func (.func 47) #[] #[.pointer (some ⟨B, 0, none⟩)], .int .i64 p.1, undef, undef, undef, undef, undef], defers := [] }) ?assign ?body ?done ?stop
    case assign =>
      rintro lp p W K hK
      gi_wp2
      exact hK
    case body =>
      rintro lp pre p W ⟨⟨v', hv, hr, hsr⟩, hg0, hN⟩ hlt
      have hc := hv.cell
      have HV := Lib.hid hv
      have HR := Lib.hid hr
      have HS := Lib.hid hsr
      have HG := Lib.hid hg0
      have HN := Lib.hid hN
      have HL := Lib.hid hlt
      clear hv hr hsr hg0 hN hlt
      gi_wp2_with (gi_at_builtin; refine wpListIn_append_int _ rfl _ _ rfl base v' (k + pre.length) _ rfl (HR.out.alloc _) ⟨W.heap.size, 0, none⟩ [.int .i64 p.1] rfl rfl (cell_one_new _ _ _) (by simp [Value.oneCell']) (by have := HL.out; have := hk.out; have := hp.out; omega) (by have := HN.out; have := hbase.out; simp; omega) ?_; intro v2 w3 hown' hgrow hr3; obtain ⟨g', cap', rfl⟩ := ownsRow_succ hown'; obtain ⟨hv1, hv2, hr2, hk2, hb2⟩ := HV.out.appended (by decide) HR.out (by have := HN.out; have := hbase.out; omega) hbase.out hown' hgrow; have hc1 := hv1.cell; have hf1 := hv1.frozen; have G2 := Lib.hid hgrow; have G3 := Lib.hid hr3; have G4 := Lib.hid hv2; have G5 := Lib.hid hr2; have G6 := Lib.hid hk2; have G7 := Lib.hid hb2; clear hown' hgrow hr3 hv1 hv2 hr2 hk2 hb2)
      have hsame : ∀ j, j < W.heap.size → j ≠ w.heap.size → some j ≠ v'.ownBlock → (w3.setCell ⟨w.heap.size, 0, none⟩ (.slice (some ⟨g', 0, none⟩) (k + pre.length + 1) cap')).heap[j]? = W.heap[j]? := fun j hj hB hr =>
        (set_other _ _ _ _ _ hB).trans ((G2.out.block j (by simp; omega) hr).trans (heap_old _ _ _ hj))
      have hsz := G7.out.size
      refine ⟨G6.out.from _, ⟨hsz, fun j hj hB hr _ => hsame j hj hB (by rw [rowOf_box HV.out] at hr; exact Ne.symm hr), fun j hj => ?_⟩, ⟨⟨_, G4.out, ?_, ?_⟩, ?_, Nat.le_trans HN.out hsz⟩⟩
      · rw [rowOf_box HV.out]
        have hlt := (G5.out.lt j (by rw [rowOf_box G4.out] at hj; exact hj)).2
        rw [rowOf_box G4.out] at hj
        rcases G3.out with h | h
        · rw [h] at hj; exact .inl hj
        · rw [h] at hj
          cases hj
          exact .inr ⟨by simp, hlt⟩
      · have := G5.out
        rw [List.length_append, List.length_singleton, List.map_append, ← List.append_assoc, ← Nat.add_assoc]
        exact this
      · rcases G3.out with h | h
        · rcases HS.out with h2 | ⟨r, h2, h3⟩
          · exact .inl (h.trans h2)
          · exact .inr ⟨r, h.trans h2, h3⟩
        · exact .inr ⟨_, h, by have := HN.out; simp; omega⟩
      · refine ⟨G7.out.os.trans HG.out.os, G7.out.tape.trans HG.out.tape, G7.out.output.trans HG.out.output, Nat.le_trans HG.out.size hsz, fun j hj hr => (hsame j (by have := HN.out; omega) (by omega) (fun e => ?_)).trans (HG.out.block j hj hr)⟩
        rcases HS.out with h2 | ⟨r, h2, h3⟩
        · rw [h2] at e; exact hr e
        · rw [h2] at e; cases e; omega
    case done =>
      rintro D ys W hD hys ⟨⟨v', hv, hr, hsr⟩, hg0, hN⟩ hK
      have hc := hv.cell
      have HR := Lib.hid hr
      have HS := Lib.hid hsr
      have HG := Lib.hid hg0
      have HK := Lib.hid hK
      have hD' : w.heap.size ≤ D := by simp at hD; omega
      clear hv hr hsr hg0 hN hD hK
      gi_wp2
      refine ⟨by simp, .inl ⟨_, _, rfl, run_takeDeferred HK.out, ?_⟩⟩
      refine ⟨_, results_tmp rfl _ _ _, v', rfl, ?_, grown_trans' HG.out (grownBy_putObj' W D _) hD', HS.out⟩
      have := ownsRow_putObj HR.out (.deferred none) HK.out rfl
      rw [← hys, List.length_map, List.length_map, List.map_map]
      exact this
    case stop =>
      rintro D c pre W _ _ h _
      exact h.elim
  · clear hk0
    gi_wp2
    have bL := Lib.hid (Boxed.new w 32 (.slice (some ⟨g, 0, none⟩) k cap))
    have hAr : Around (fun j => j = w.heap.size) (rowOf w.heap.size) (w.alloc (.cells #[.slice (some ⟨g, 0, none⟩) k cap] 32)) := by
      refine ⟨fun j hj => ?_, fun j hj => ?_, fun W hW => ?_⟩
      · subst hj; simp
      · rw [rowOf_box bL.out] at hj
        have := hrow.out j hj
        simp; omega
      · exact rowOf_same (hW.block _ (by simp))
    have hSr : Srcs (w.alloc (.cells #[.slice (some ⟨g, 0, none⟩) k cap] 32)) x B (fun j => j = w.heap.size ∨ rowOf w.heap.size (w.alloc (.cells #[.slice (some ⟨g, 0, none⟩) k cap] 32)) = some j) := by
      obtain ⟨o, cp, ba, offa, s1, s2, s3, s4, s5, s6⟩ := hs.out
      refine ⟨o, cp, ba, offa, (heap_old _ _ _ (lt_of_heap s1)).trans s1, s2, s3, fun j hj => cell_on ((Below.refl _ _).alloc (Nat.le_refl _) _) (s4 j hj), ?_, fun hp => ?_⟩
      · rw [rowOf_box bL.out]
        rintro (h | h)
        · have := lt_of_heap s1; omega
        · exact s5 h
      · rw [rowOf_box bL.out]
        rintro (h | h)
        · have := World.block_lt_of_cell? _ _ (s4 0 hp); simp only at this; omega
        · exact s6 hp h
    have hinv : AInv (x := x) w base k (.slice (some ⟨g, 0, none⟩) k cap) xs [] (w.alloc (.cells #[.slice (some ⟨g, 0, none⟩) k cap] 32)) :=
      ⟨⟨_, bL.out, by simpa using hown.out.alloc _, .inl rfl⟩, World.grownBy_alloc _ _ _, by simp⟩
    refine wpIn_rangeFunc_ownG (α := PartOf x) rfl (by decide) (gf := 47) (lb := #[.pointer (some ⟨B, 0, none⟩)]) rfl trivial (enters_of Try.func47 (by kernel_rfl) rfl)
      (parts_stops 4 (by decide) x B _ _ _ hAr hSr) (fun h k => h.trans k) (fun W l o o' h1 h2 h3 _ => keepM_putObj (by simp) W l o o' h1 h2 h3) (Below.refl _ _) (fun _ => rfl)
      (AInv w base k (.slice (some ⟨g, 0, none⟩) k cap) xs) (fun _ _ _ => False) (by have := ainv_own (x := x) w base k (.slice (some ⟨g, 0, none⟩) k cap) xs; simpa using this) (fun _ _ _ _ _ hs _ _ => hs) hinv
      (fun p => { tmps := #[.slice (some ⟨g, 0, none⟩) k cap, .func (.func 47) #[] #[.pointer (some ⟨B, 0, none⟩)], .pointer (some ⟨w.heap.size, 0, none⟩), undef, .slice none 0 0, .int .i64 p.1, .func (.func 47) #[] #[.pointer (some ⟨B, 0, none⟩)], .int .i64 p.1, undef, undef, undef, undef, undef], defers := [] }) ?assign ?body ?done ?stop
    case assign =>
      rintro lp p W K hK
      gi_wp2
      exact hK
    case body =>
      rintro lp pre p W ⟨⟨v', hv, hr, hsr⟩, hg0, hN⟩ hlt
      have hc := hv.cell
      have HV := Lib.hid hv
      have HR := Lib.hid hr
      have HS := Lib.hid hsr
      have HG := Lib.hid hg0
      have HN := Lib.hid hN
      have HL := Lib.hid hlt
      clear hv hr hsr hg0 hN hlt
      gi_wp2_with (gi_at_builtin; refine wpListIn_append_int _ rfl _ _ rfl base v' (k + pre.length) _ rfl (HR.out.alloc _) ⟨W.heap.size, 0, none⟩ [.int .i64 p.1] rfl rfl (cell_one_new _ _ _) (by simp [Value.oneCell']) (by have := HL.out; have := hk.out; have := hp.out; omega) (by have := HN.out; have := hbase.out; simp; omega) ?_; intro v2 w3 hown' hgrow hr3; obtain ⟨g', cap', rfl⟩ := ownsRow_succ hown'; obtain ⟨hv1, hv2, hr2, hk2, hb2⟩ := HV.out.appended (by decide) HR.out (by have := HN.out; have := hbase.out; omega) hbase.out hown' hgrow; have hc1 := hv1.cell; have hf1 := hv1.frozen; have G2 := Lib.hid hgrow; have G3 := Lib.hid hr3; have G4 := Lib.hid hv2; have G5 := Lib.hid hr2; have G6 := Lib.hid hk2; have G7 := Lib.hid hb2; clear hown' hgrow hr3 hv1 hv2 hr2 hk2 hb2)
      have hsame : ∀ j, j < W.heap.size → j ≠ w.heap.size → some j ≠ v'.ownBlock → (w3.setCell ⟨w.heap.size, 0, none⟩ (.slice (some ⟨g', 0, none⟩) (k + pre.length + 1) cap')).heap[j]? = W.heap[j]? := fun j hj hB hr =>
        (set_other _ _ _ _ _ hB).trans ((G2.out.block j (by simp; omega) hr).trans (heap_old _ _ _ hj))
      have hsz := G7.out.size
      refine ⟨G6.out.from _, ⟨hsz, fun j hj hB hr _ => hsame j hj hB (by rw [rowOf_box HV.out] at hr; exact Ne.symm hr), fun j hj => ?_⟩, ⟨⟨_, G4.out, ?_, ?_⟩, ?_, Nat.le_trans HN.out hsz⟩⟩
      · rw [rowOf_box HV.out]
        have hlt := (G5.out.lt j (by rw [rowOf_box G4.out] at hj; exact hj)).2
        rw [rowOf_box G4.out] at hj
        rcases G3.out with h | h
        · rw [h] at hj; exact .inl hj
        · rw [h] at hj
          cases hj
          exact .inr ⟨by simp, hlt⟩
      · have := G5.out
        rw [List.length_append, List.length_singleton, List.map_append, ← List.append_assoc, ← Nat.add_assoc]
        exact this
      · rcases G3.out with h | h
        · rcases HS.out with h2 | ⟨r, h2, h3⟩
          · exact .inl (h.trans h2)
          · exact .inr ⟨r, h.trans h2, h3⟩
        · exact .inr ⟨_, h, by have := HN.out; simp; omega⟩
      · refine ⟨G7.out.os.trans HG.out.os, G7.out.tape.trans HG.out.tape, G7.out.output.trans HG.out.output, Nat.le_trans HG.out.size hsz, fun j hj hr => (hsame j (by have := HN.out; omega) (by omega) (fun e => ?_)).trans (HG.out.block j hj hr)⟩
        rcases HS.out with h2 | ⟨r, h2, h3⟩
        · rw [h2] at e; exact hr e
        · rw [h2] at e; cases e; omega
    case done =>
      rintro D ys W hD hys ⟨⟨v', hv, hr, hsr⟩, hg0, hN⟩ hK
      have hc := hv.cell
      have HR := Lib.hid hr
      have HS := Lib.hid hsr
      have HG := Lib.hid hg0
      have HK := Lib.hid hK
      have hD' : w.heap.size ≤ D := by simp at hD; omega
      clear hv hr hsr hg0 hN hD hK
      gi_wp2
      refine ⟨by simp, .inl ⟨_, _, rfl, run_takeDeferred HK.out, ?_⟩⟩
      refine ⟨_, results_tmp rfl _ _ _, v', rfl, ?_, grown_trans' HG.out (grownBy_putObj' W D _) hD', HS.out⟩
      have := ownsRow_putObj HR.out (.deferred none) HK.out rfl
      rw [← hys, List.length_map, List.length_map, List.map_map]
      exact this
    case stop =>
      rintro D c pre W _ _ h _
      exact h.elim
theorem append_any (x : Ex) (B base k : Nat) (v : Value) (xs : List Value) (w : World) (hown : w.ownsRow base 3 1 v k xs) (hbase : base ≤ w.heap.size) (hk : k ≤ 100000000) (hp : (partsE x).length ≤ 1000) (hs : Srcs w x B (fun k => v.ownBlock = some k)) :
    Calls Try.prog 50 #[v, partsV B] w fun e w' => AppPost base k v xs ((partsE x).map intV) w e w' :=
  callsIn_wide.1 (append_core x B base k v xs w (Lib.hid hown) (Lib.hid hbase) (Lib.hid hk) (Lib.hid hp) (Lib.hid hs))
/-- a new slice of numbers, and nothing else -/
def NewInts (l : List Int) (w : World) (e : Ending) (w' : World) : Prop := ∃ v, e = .returned v ∧ w'.ownsRow w.heap.size 3 1 v l.length (l.map intV) ∧ Below w.heap.size w w'
theorem grown_below {w w' : World} (h : w.grownBy w' none) : Below w.heap.size w w' := ⟨h.os, h.tape, h.output, h.size, fun k hk => h.block k hk (fun e => by cases e)⟩
theorem owns_low {w : World} {base base' : Nat} {e : TypeId} {sz n : Nat} {v : Value} {xs : List Value} (h : w.ownsRow base e sz v n xs) (hb : base' ≤ base) : w.ownsRow base' e sz v n xs := by
  refine ⟨h.1, ?_⟩
  rcases h.2 with h2 | ⟨g, cap, cur, rfl, h3, h4⟩
  · exact .inl h2
  · exact .inr ⟨g, cap, cur, rfl, Nat.le_trans hb h3, h4⟩
theorem collect_any (x : Ex) (B : Nat) (w : World) (hp : (partsE x).length ≤ 1000) (hs : Srcs w x B (fun _ => False)) :
    Calls Try.prog 37 #[partsV B] w fun e w' => NewInts (partsE x) w e w' := by
  have C := Lib.hid (append_any x B w.heap.size 0 (.slice none 0 0) [] w (World.ownsRow_nil _ _ _ _) (Nat.le_refl _) (by omega) hp (by
    obtain ⟨o, cp, ba, offa, s1, s2, s3, s4, s5, s6⟩ := hs
    exact ⟨o, cp, ba, offa, s1, s2, s3, s4, (fun h => by simp [Value.ownBlock] at h), fun _ h => by simp [Value.ownBlock] at h⟩))
  clear hs
  go_enter Try.func37, Try.ntmps37
  go_wp2_with (go_at_call 50; ((with_reducible refine C.out.mono ?_); rintro e w1 ⟨v', rfl, hown, hg, _⟩; have H1 := Lib.hid hown; have H2 := Lib.hid hg; clear hown hg))
  go_ret
  refine ⟨v', rfl, ?_, grown_below H2.out⟩
  have := H1.out
  rwa [Nat.zero_add, List.nil_append, List.length_map] at this
/-- an expression as a value -/
def exV (x : Ex) (s : Value) : Value := .agg (exCells x s)
theorem ex_boxed (w : World) (x : Ex) (s : Value) : (w.alloc (.cells (exCells x s) 34)).heap[w.heap.size]? = some (.cells (exCells x s) 34 (0, 0)) := World.alloc_heap_new w _
theorem parts_fn (x : Ex) (s : Value) (w : World) (ha : IntsAt w s x.args) (hk : ExOk x) (hp : (partsE x).length ≤ 1000) :
    Calls Try.prog 14 #[exV x s] w fun e w' => NewInts (partsE x) w e w' := by
  have hb1 := Lib.hid (below_al (Below.refl w.heap.size w) (.cells (exCells x s) 34))
  obtain ⟨w1, hw1⟩ : ∃ w1, w1 = w.alloc (.cells (exCells x s) 34) := ⟨_, rfl⟩
  have hb2 := Lib.hid (below_al (Below.refl w1.heap.size w1) (.cells (exCells x s) 34))
  have C := Lib.hid (collect_any x w1.heap.size (w1.alloc (.cells (exCells x s) 34)) hp (srcs_of ha hk (hb1.out.trans (by rw [← hw1]; exact hb2.out.mono (by rw [hw1]; simp))) (ex_boxed w1 x s) (fun _ h => h.elim) (fun h => h)))
  rw [hw1, World.size_alloc] at C
  rw [hw1] at hb2
  clear hw1 ha hk
  unfold exV exCells at *
  go_enter Try.func14, Try.ntmps14
  go_wp2_with (first | (go_at_call 34; ((with_reducible refine (parts_any _ _ _ _ _ _ _ _ _ _).mono ?_); rintro e w2 ⟨rfl, rfl⟩)) | (go_at_call 37; ((with_reducible refine C.out.mono ?_); rintro e w3 ⟨v', rfl, hown, hb⟩; have H1 := Lib.hid hown; have H2 := Lib.hid hb; clear hown hb)))
  go_ret
  have hbb := hb1.out.trans (hb2.out.mono (by simp))
  refine ⟨v', rfl, ?_, hbb.trans (H2.out.mono hbb.size)⟩
  exact owns_low H1.out (by simp; omega)
end Go.Proofs.Ytiilgehdkanmnaa
