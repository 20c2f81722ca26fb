/- Joined: PxExprs, Post, LexFrame. -/
import Derived.Test.YtlbhlncipajapaaGreatDoorPe41
import Derived.Test.YtlbhlncipajapaaGreatDoorPe42
import Derived.Test.YtlbhlncipajapaaGreatDoorPe47
import Derived.Below
import Derived.ChangeSame
import Derived.Test.YtlbhlncipajapaaGreatDoorPe04
import Derived.ProofKit
import Derived.OpenShut
import Derived.LaidMore
import Derived.Lay
import Derived.SevenTiedAt
import Derived.Stop.Joined
import Derived.Stop.LaidErr
import Derived.Lib.LaidU8
namespace Go.Proofs.YtlbhlncipajapaaGreatDoor
open Go.RowKit Lx
set_option linter.unusedVariables false

theorem may_exs {es : List Ex} (hg : AllGood es) : mayP ⟨[], es⟩ = true := by
  unfold mayP
  simp only [Bool.and_eq_true, List.all_eq_true]
  refine ⟨fun i hi => ?_, fun d hd => by cases hd⟩
  unfold mayX
  cases hx : es[i]? with
  | none => rfl
  | some x => exact (hg i x hx).1
set_option maxHeartbeats 4000000 in
theorem exprs_law (s : ByteArray) (w : World) (hS : Signs w) : Calls Tryz.prog 4 #[.string s] w fun r Y => r = .returned (.bool true) ∧ Below w.heap.size w Y := by
  obtain ⟨l, rfl⟩ : ∃ l, s = str l := ⟨s.data.toList, by cases s; simp [str]⟩
  obtain ⟨es, cd, f, hl, hg, ha, hC, hR⟩ := exprs_any l
  obtain ⟨S, hs⟩ : ∃ S, S = str l := ⟨_, rfl⟩
  rw [← hs] at hC hR ⊢
  obtain ⟨L, hL⟩ : ∃ L, L = es.length := ⟨_, rfl⟩
  obtain ⟨M, hM⟩ : ∃ M : Int, M = ((es.length - 1 : Nat) : Int) := ⟨_, rfl⟩
  have AL : Hid (Calls Tryz.prog 7 #[] w fun r Y => r = .returned (.bool true) ∧ Hid (Below w.heap.size w Y)) := Lib.hid ((alive_px w hS).mono fun r Y h => ⟨h.1, Lib.hid h.2⟩)
  have CC : Hid (∀ W, Below w.heap.size w W → Calls Tryz.prog 12 #[.string S] W fun r Y => ∃ o c, r = .returned (.tuple #[.agg #[.slice none 0 0, .slice o L c], .int .i64 M, .agg #[.int .i64 cd, .int .i64 f]]) ∧ Hid (ExsAt Y (.slice o L c) es ∧ Below W.heap.size W Y)) := Lib.hid fun W hW => (hC W (hS.below hW)).mono fun r Y ⟨o, c, h1, h2, h3⟩ => ⟨o, c, by rw [hL, hM]; exact h1, Lib.hid ⟨by rw [hL]; exact exs_own h2 hg, h3⟩⟩
  have RR : Hid (∀ W, Calls Tryz.prog 9 #[.string S, .bool true] W fun r Y => ∃ o c, r = .returned (.tuple #[.agg #[.slice none 0 0, .slice o L c], .int .i64 M, .agg #[.int .i64 cd, .int .i64 f]]) ∧ Hid (ExsAt Y (.slice o L c) es ∧ Below W.heap.size W Y)) := Lib.hid fun W => (hR W).mono fun r Y ⟨o, c, h1, h2, h3⟩ => ⟨o, c, by rw [hL, hM]; exact h1, Lib.hid ⟨by rw [hL]; exact exs_own h2 hg, h3⟩⟩
  have EQ : Hid (∀ W o c o' c', ExsAt W (.slice o L c) es → ExsAt W (.slice o' L c') es → Calls Tryz.prog 10 #[.agg #[.slice none 0 0, .slice o L c], .agg #[.slice none 0 0, .slice o' L c']] W fun r Y => r = .returned (.bool true) ∧ Hid (Below W.heap.size W Y)) := Lib.hid fun W o c o' c' h1 h2 => (equal_exs es _ _ W (Lib.hid h1) (Lib.hid h2) (Lib.hid (by unfold reachN; omega))).mono fun r Y h => ⟨h.1, Lib.hid h.2⟩
  have MA : Hid (∀ W o c, ExsAt W (.slice o L c) es → Calls Tryz.prog 11 #[.agg #[.slice none 0 0, .slice o L c]] W fun r Y => r = .returned (.bool true) ∧ Hid (Below W.heap.size W Y)) := Lib.hid fun W o c h1 => (refMay_any _ _ ⟨[], es⟩ W ⟨slAt_none 0 7 0 none _ ⟨by decide, fun _ => rfl⟩ rfl, h1, Nat.zero_le _, by show es.length ≤ reachN; unfold reachN; omega⟩ ⟨by show es.length ≤ _; omega, Nat.zero_le _, ha, fun d hd => by cases hd⟩).mono fun r Y h => by
    unfold MayPost at h
    rw [may_exs hg] at h
    exact ⟨h.1, Lib.hid h.2⟩
  have q0 : (cd == cd) = true := by simp
  have q1 : (f == f) = true := by simp
  have q2 : (M == M) = true := by simp
  clear hl hg ha hC hR hs hL hM hS
  go_enter Tryz.func4, Tryz.ntmps4
  go_wp2_with (first
    | (go_at_call 7; (with_reducible refine AL.out.mono ?_); rintro e w1 ⟨rfl, hb1⟩)
    | (go_at_call 12; (with_reducible refine (CC.out w1 hb1.out).mono ?_); rintro e w2 ⟨o, c, rfl, h2⟩)
    | (go_at_call 9; (with_reducible refine (RR.out _).mono ?_); rintro e w3 ⟨o', c', rfl, h3⟩;
        obtain ⟨V2, hV2⟩ : ∃ V2, V2 = (w2.alloc (.cells #[.slice none 0 0, .slice o L c] 26)).alloc (.cells #[.int .i64 cd, .int .i64 f] 29) := ⟨_, rfl⟩;
        obtain ⟨v1, v2⟩ := rg_two_boxes w2 #[.slice none 0 0, .slice o L c] #[.int .i64 cd, .int .i64 f] 26 29;
        rw [← hV2] at h3 v1 v2;
        have hbv : Below w2.heap.size w2 V2 := (by rw [hV2]; exact ((Below.refl _ _).alloc (Nat.le_refl _) _).alloc (by simp) _);
        have hs2 : V2.heap.size = w2.heap.size + 2 := (by rw [hV2]; simp);
        have x1 := (h3.out.2.block _ (heap_lt v1)).trans v1;
        have x2 := (h3.out.2.block _ (heap_lt v2)).trans v2;
        have e1 : ExsAt w3 (.slice o L c) es := (h2.out.1.below hbv).below h3.out.2;
        have n1 : w2.heap.size < w3.heap.size := heap_lt x1;
        have n2 : w2.heap.size + 1 < w3.heap.size := heap_lt x2;
        have p0 : w3.cell? ⟨w2.heap.size, 0, none⟩ = some (.slice none 0 0) := (by simp [World.cell?, x1]);
        have p1 : w3.cell? ⟨w2.heap.size, 1, none⟩ = some (.slice o L c) := (by simp [World.cell?, x1]);
        have u0 : w3.cell? ⟨w2.heap.size + 1, 0, none⟩ = some (.int .i64 cd) := (by simp [World.cell?, x2]);
        have u1 : w3.cell? ⟨w2.heap.size + 1, 1, none⟩ = some (.int .i64 f) := (by simp [World.cell?, x2]);
        have HB3 := Lib.hid ((hb1.out.trans (h2.out.2.mono hb1.out.size)).trans ((hbv.trans (h3.out.2.mono hbv.size)).mono (Nat.le_trans hb1.out.size h2.out.2.size)));
        have E12 := Lib.hid (show _ ∧ _ from ⟨e1, h3.out.1⟩);
        clear hV2 hbv hs2 x1 x2 e1 v1 v2)
    | (go_at_call 10;
        obtain ⟨V3, hV3⟩ : ∃ V3, V3 = (w3.alloc (.cells #[.slice none 0 0, .slice o' L c'] 26)).alloc (.cells #[.int .i64 cd, .int .i64 f] 29) := ⟨_, rfl⟩;
        have hbv : Below w3.heap.size w3 V3 := (by rw [hV3]; exact ((Below.refl _ _).alloc (Nat.le_refl _) _).alloc (by simp) _);
        rw [← hV3]; clear hV3;
        (with_reducible refine (EQ.out V3 o c o' c' (E12.out.1.below hbv) (E12.out.2.below hbv)).mono ?_); rintro e w4 ⟨rfl, hb4⟩;
        have hb34 : Below w3.heap.size w3 w4 := hbv.trans (hb4.out.mono hbv.size);
        have p0' := cell_on hb34 p0; have p1' := cell_on hb34 p1;
        have HB34 := Lib.hid hb34;
        clear hb34 hbv)
    | (go_at_call 11; (with_reducible refine (MA.out _ o c (E12.out.1.below HB34.out)).mono ?_); rintro e w5 ⟨rfl, hb5⟩))
  go_ret
  exact ⟨rfl, HB3.out.trans ((HB34.out.trans (hb5.out.mono HB34.out.size)).mono HB3.out.size)⟩
end Go.Proofs.YtlbhlncipajapaaGreatDoor
namespace Go.Proofs.YtlbhlncipajapaaGreatDoor
open Go.RowKit Go.WideShapes Go.ChangeShapes
section
variable {H : Type} {enc : TypeId × Value → H} {P : Program}
theorem post_by_below {f : Func} {s : ChangeSpec} {apart fresh handsOn again : Bool} {W W' : World} {args : Array Value} {v : Value} {ds gs : List (DataW H)} {before pa pv : List MemPlace}
    (hW : DataW.Whole enc P f.params.toList s.vars apart W args.toList ds gs before)
    (hres : ∀ (b : Nat) (sp : Nat → Bool) (hd : Bool), DataW.TrodAll enc P W' b sp hd f.resultTypes.toList (v.resultList f.resultTypes.size) (s.fn H (ds ++ gs)).results [])
    (hargs : ∀ sp : Nat → Bool, (∀ p ∈ before, sp p.block = true) → DataW.TrodAll enc P W' 0 sp true f.params.toList args.toList (s.fn H (ds ++ gs)).args pa)
    (hvars : ∀ sp : Nat → Bool, (∀ p ∈ before, sp p.block = true) → DataW.TrodVars enc P W' sp s.vars (s.fn H (ds ++ gs)).vars pv)
    (hps : before = pa ++ pv) (hb : Below W.heap.size W W')
    (hok : ∀ (j : Nat) (t : TypeId) (r : Value), f.resultTypes[j]? = some t → (v.resultList f.resultTypes.size)[j]? = some r → Value.okWide P W' .any 0 t r) :
    s.post enc P f apart fresh handsOn again W args v W' := by
  have blocks : ∀ p ∈ before, p.block < W.heap.size := fun p hp => hW.lt p hp
  have old : ∀ p ∈ before, (fun b => decide (b < W.heap.size)) p.block = true := fun p hp => decide_eq_true (blocks p hp)
  have both : ∀ p, p ∈ before → p ∈ pa ∨ p ∈ pv := fun p hp => by rw [hps] at hp; exact List.mem_append.1 hp
  have frame : W.keptBut W' (fun p => p ∈ before ∧ (p ∈ ([] : List MemPlace) ∨ p ∈ pa ∨ p ∈ pv)) :=
    World.keptBut_mono (fun p hp => ⟨hp, .inr (both p hp)⟩) (hb.frame (· ∈ before))
  have whole : DataW.Whole enc P f.params.toList s.vars apart W args.toList ds gs before := hW
  obtain ⟨_, _, _, _, _, cold, once⟩ := hW
  have cold' : ∀ b off, MemPlace.cell b off ∈ before → W'.frozen? ⟨b, off, none⟩ = false := fun b off hp => by
    rw [hb.frozen (p := ⟨b, off, none⟩) (blocks _ hp)]
    exact cold b off hp
  have behind : DataW.Whole enc P (f.resultTypes.toList ++ f.params.toList) s.vars apart W' (v.resultList f.resultTypes.size ++ args.toList)
      ((s.fn H (ds ++ gs)).results ++ (s.fn H (ds ++ gs)).args) (s.fn H (ds ++ gs)).vars (pa ++ pv) := by
    have h := trodAll_append (hargs (fun _ => true) fun _ _ => rfl) (hres 0 (fun _ => true) true)
    exact ⟨pa, pv, h, hvars _ fun _ _ => rfl, rfl, fun b off hp => cold' b off (by rw [hps]; exact hp), fun ha => by rw [← hps]; exact once ha⟩
  exact ⟨ds, gs, before, [], pa, pv, whole, hres _ _ _, hargs _ old, hvars _ old, frame, fun _ => ⟨hok, _, _, _, behind, fun p hp _ => by rw [hps]; exact hp⟩⟩
end
end Go.Proofs.YtlbhlncipajapaaGreatDoor
namespace Go.Proofs.YtlbhlncipajapaaGreatDoor.Lx
open Go.ChangeShapes Go.WideShapes Go.ChangeAt Go.RowKit

theorem own : ownKnob Tryz.prog.godebug = none := by kernel_rfl
theorem glob_signs : Tryz.prog.globalNamed "astrolabe/lex.signs" = some 0 := by kernel_rfl
theorem type_signs : (Tryz.prog.globals[0]?).map (·.type) = some 139 := by kernel_rfl
theorem bounds_of_wf {a : Int} (h : (Lit.int .i64 a).wf = true) : -9223372036854775808 ≤ a ∧ a ≤ 9223372036854775807 := by
  simp only [Lit.wf, IntKind.min, IntKind.max, IntKind.signed, IntKind.bits, Bool.and_eq_true, decide_eq_true_eq, if_true] at h
  omega
/-- an array of strings that reads as these texts holds them -/
theorem cells_of_texts {P : Program} {w : World} {fuel : Nat} {t e : TypeId} {n : Nat} {cs : List Value} {xs : List (List UInt8)} {p : List MemPlace}
    (ht : P.underlying t = some (.array n e)) (he : P.underlying e = some .string) (hce : P.cellsOf e = 1) (hct : P.cellsOf t = n)
    (h : DataW.trod (fun _ => ()) P w 0 (fun _ => true) false fuel t cs = some (.agg (xs.map fun x => .lit (.string x)), p)) : cs = xs.map fun x => Value.string (str x) := by
  cases fuel with
  | zero => simp [DataW.trod] at h
  | succ fuel =>
    simp only [DataW.trod, ht, hce, hct, Nat.mul_one] at h
    split at h
    · obtain ⟨ys, hm, hx⟩ := Option.map_eq_some_iff.1 h
      have hxs : ys.map (·.1) = xs.map fun x => (DataW.lit (.string x) : DataW Unit) := by
        have := congrArg Prod.fst hx
        simpa using this
      have hyl : ys.length = n := by simpa using Lib.mapM_length hm
      have hxl : xs.length = n := by
        have := congrArg List.length hxs
        simp at this
        omega
      rename_i hl
      apply List.ext_getElem?
      intro i
      by_cases hi : i < n
      · obtain ⟨b, hb, hf⟩ := Lib.mapM_at hm i i (by simp [hi])
        obtain ⟨s, hc, rfl, _⟩ := DataW.trod_string he hf
        have h1 : cs[i]? = some (.string s) := by
          have := congrArg (·[0]?) hc
          simpa [List.getElem?_take, List.getElem?_drop] using this
        have h2 : (ys.map (·.1))[i]? = some (DataW.lit (.string s.data.toList) : DataW Unit) := by simp [hb]
        rw [hxs] at h2
        simp only [List.getElem?_map, Option.map_eq_some_iff, DataW.lit.injEq, Lit.string.injEq] at h2
        obtain ⟨x, hx', h3⟩ := h2
        rw [h1, List.getElem?_map, hx', h3]
        simp [str]
      · rw [List.getElem?_eq_none (by omega), List.getElem?_eq_none (by simp; omega)]
    · cases h
theorem tab_of_laid {W : World} (h : laidMetH Tryz.prog [("astrolabe/lex.signs", Rows.laid_astrolabe_lex_signs)] W) : Signs W := by
  rw [MakeChecks.laidMetH_plain _ _ _ (by kernel_rfl)] at h
  obtain ⟨g', t', cs, fuel, p, hg', ht', hvar, hd⟩ := Lib.laidMet.reads h (n := "astrolabe/lex.signs") (d := Rows.laid_astrolabe_lex_signs) (by simp)
  obtain rfl := Option.some.inj (glob_signs.symm.trans hg')
  obtain rfl := Option.some.inj (type_signs.symm.trans ht')
  have hcs := cells_of_texts (xs := signsL) Tryz.underlying139 Tryz.underlying9 (by kernel_rfl) (by kernel_rfl) hd
  unfold World.var? at hvar
  rw [glob_signs, Option.bind_some] at hvar
  split at hvar
  · rename_i c T fr hh
    cases hvar
    refine ⟨T, fr, ?_⟩
    rw [hh]
    congr 2
    apply Array.toList_inj.1
    rw [hcs]
    simp [signCells]
  · cases hvar
end Go.Proofs.YtlbhlncipajapaaGreatDoor.Lx
