/- The Go function astrolabe/astrolabelaw04.AstSame answers true at every input, and leaves its arguments as they were. No condition. -/
import Derived.Test.YtiilgehdkanmnaaRows
import Derived.Test.YtiilgehdkanmnaaSameAll
import Derived.Test.YtiilgehdkanmnaaSameM6
import Derived.Test.YtiilgehdkanmnaaTreeSize
import Derived.Test.YtiilgehdkanmnaaPost
import Derived.WalkKit
import Derived.ProofKit
import Derived.OpenShut
import Derived.SizedLaws
import Derived.ChangeAgain
namespace Go.Proofs.Ytiilgehdkanmnaa
section
open Go.RowKit Go.Shelf

attribute [local go_sem] Oper.semAt_some

theorem sameL_refl {l : List Ex} (hl : AheadL l) : ∀ a : Nat, a < l.length → sameL l l a a = true := by
  intro a
  induction a using Nat.strongRecOn with
  | _ a ih =>
  intro ha
  have hx := List.getElem?_eq_getElem ha
  rw [sameL_eq hl hx hx, Bool.and_eq_true, Bool.and_eq_true, headE_iff, List.all_eq_true]
  refine ⟨⟨rfl, by simp⟩, fun z hz => ?_⟩
  obtain ⟨i, hi, he⟩ := List.mem_iff_getElem.1 hz
  rw [List.getElem_zip] at he
  have h1 := hl a _ hx z.1 (List.of_mem_zip hz).1
  have e : z.2 = z.1 := by rw [← he]
  rw [e]
  exact ih z.1.toNat (by omega) (by omega)
theorem sameC_eq {F G : Value → Option Nat} {last : Nat} (g : Good F G last) {l m : List Ex} {cs ds : List Nat} (hl : AheadL l) (hm : AheadL m) (hc : ClsAll F G l cs) (hd : ClsAll F G m ds) (has : Bool) (a b : Int) (h : has = true → (0 ≤ a ∧ a < (l.length : Int)) ∧ 0 ≤ b ∧ b < (m.length : Int)) :
    sameC cs ds has a b = (!has || sameL l m a.toNat b.toNat) := by
  unfold sameC
  cases has with
  | false => rfl
  | true =>
    obtain ⟨⟨a0, a1⟩, b0, b1⟩ := h rfl
    have hs := cls_same g hl hm hc hd a.toNat b.toNat (by omega) (by omega)
    show (false || decide _) = (false || _)
    rw [Bool.false_or, Bool.false_or]
    cases hS : sameL l m a.toNat b.toNat with
    | false => exact decide_eq_false fun e => by rw [hs.1 e] at hS; cases hS
    | true => exact decide_eq_true (hs.2 hS)
theorem itemC_eq {F G : Value → Option Nat} {last : Nat} (g : Good F G last) {l m : List Ex} {cs ds : List Nat} (hl : AheadL l) (hm : AheadL m) (hc : ClsAll F G l cs) (hd : ClsAll F G m ds) {x y : It} (mx : mayI l.length x = true) (my : mayI m.length y = true) : itemC cs ds x y = sameIt l m x y := by
  by_cases hk : x.kind = y.kind
  · unfold itemC sameIt headI
    rw [sameC_eq g hl hm hc hd _ _ _ (fun h => ⟨mayI_e mx h, mayI_e my (by rw [← hk]; exact h)⟩), sameC_eq g hl hm hc hd _ _ _ (fun h => ⟨mayI_f mx h, mayI_f my (by rw [← hk]; exact h)⟩)]
    simp only [Bool.and_assoc, Bool.and_comm, Bool.and_left_comm]
  · unfold itemC sameIt headI
    simp [hk]
theorem itemsC_eq {F G : Value → Option Nat} {last : Nat} (g : Good F G last) {l m : List Ex} {cs ds : List Nat} (hl : AheadL l) (hm : AheadL m) (hc : ClsAll F G l cs) (hd : ClsAll F G m ds) {xs ys : List It} (mx : ∀ x ∈ xs, mayI l.length x = true) (my : ∀ y ∈ ys, mayI m.length y = true) : itemsC cs ds xs ys = sameIts l m xs ys := by
  unfold itemsC sameIts
  congr 1
  rw [Bool.eq_iff_iff, List.all_eq_true, List.all_eq_true]
  refine forall_congr' fun z => forall_congr' fun hz => ?_
  rw [itemC_eq g hl hm hc hd (mx _ (List.of_mem_zip hz).1) (my _ (List.of_mem_zip hz).2)]
theorem declC_eq {F G : Value → Option Nat} {last : Nat} (g : Good F G last) {l m : List Ex} {cs ds : List Nat} (hl : AheadL l) (hm : AheadL m) (hc : ClsAll F G l cs) (hd : ClsAll F G m ds) {x y : De} (mx : mayD l.length x = true) (my : mayD m.length y = true) : declC cs ds x y = sameDe l m x y := by
  by_cases hk : x.kind = y.kind
  · unfold declC sameDe
    rw [sameC_eq g hl hm hc hd _ _ _ (fun h => ⟨mayD_e mx h, mayD_e my (by rw [← hk]; exact h)⟩), itemsC_eq g hl hm hc hd (mayD_items mx) (mayD_items my)]
    simp only [Bool.and_assoc, Bool.and_comm, Bool.and_left_comm]
  · unfold declC sameDe
    simp [hk]
theorem declsC_eq {F G : Value → Option Nat} {last : Nat} (g : Good F G last) {p q : Pr} {cs ds : List Nat} (h1 : mayP p = true) (h2 : mayP q = true) (hc : ClsAll F G p.exprs cs) (hd : ClsAll F G q.exprs ds) : declsC cs ds p.decls q.decls = sameDes p.exprs q.exprs p.decls q.decls := by
  unfold declsC sameDes
  congr 1
  rw [Bool.eq_iff_iff, List.all_eq_true, List.all_eq_true]
  refine forall_congr' fun z => forall_congr' fun hz => ?_
  rw [declC_eq g (ahead_of_may h1) (ahead_of_may h2) hc hd (mayP_decls h1 _ (List.of_mem_zip hz).1) (mayP_decls h2 _ (List.of_mem_zip hz).2)]
theorem all_zip_self {α : Type} (f : α × α → Bool) : ∀ xs : List α, (∀ x ∈ xs, f (x, x) = true) → (xs.zip xs).all f = true
  | [], _ => rfl
  | x :: xs, h => by
    rw [List.zip_cons_cons, List.all_cons, h x (List.mem_cons_self ..), all_zip_self f xs fun y hy => h y (List.mem_cons_of_mem _ hy)]; rfl
theorem sameDes_refl {p : Pr} (h : mayP p = true) : sameDes p.exprs p.exprs p.decls p.decls = true := by
  have hr : ∀ a : Int, 0 ≤ a ∧ a < (p.exprs.length : Int) → sameL p.exprs p.exprs a.toNat a.toNat = true := fun a ha => sameL_refl (ahead_of_may h) _ (by omega)
  unfold sameDes
  rw [all_zip_self _ _ fun x hx => ?_]
  · simp
  · have mx := mayP_decls h x hx
    have e1 : samePas x.params x.params = true := by
      unfold samePas
      rw [all_zip_self _ _ fun y _ => by unfold samePa; simp]; simp
    have e2 : sameIts p.exprs p.exprs x.items x.items = true := by
      unfold sameIts
      rw [all_zip_self _ _ fun y hy => ?_]
      · simp
      · have my := mayD_items mx y hy
        show sameIt p.exprs p.exprs y y = true
        unfold sameIt
        cases he : hasE y.kind <;> cases hf : hasF y.kind <;> simp
        · exact hr _ (mayI_f my hf)
        · exact hr _ (mayI_e my he)
        · exact ⟨hr _ (mayI_e my he), hr _ (mayI_f my hf)⟩
    show sameDe p.exprs p.exprs x x = true
    unfold sameDe
    rw [e1, e2]
    cases he : hasVal x.kind <;> simp
    exact hr _ (mayD_e mx he)
theorem maxOf_congr (ds es : List Nat) : ∀ (ps qs : List Int) (acc : Nat), ps.length = qs.length → (∀ z ∈ ps.zip qs, ds.getD z.1.toNat 0 = es.getD z.2.toNat 0) → ps.foldl (fun m p => max m (ds.getD p.toNat 0)) acc = qs.foldl (fun m p => max m (es.getD p.toNat 0)) acc
  | [], [], _, _, _ => rfl
  | [], _ :: _, _, h, _ => by cases h
  | _ :: _, [], _, h, _ => by cases h
  | a :: ps, b :: qs, acc, h, hz => by
    rw [List.foldl_cons, List.foldl_cons, hz (a, b) (by rw [List.zip_cons_cons]; exact List.mem_cons_self ..)]
    exact maxOf_congr ds es ps qs _ (by simpa using h) fun z h => hz z (by rw [List.zip_cons_cons]; exact List.mem_cons_of_mem _ h)
/-- an expression is one deeper than its deepest part -/
theorem deeps_at {p : Pr} (hm : mayP p = true) {e : Nat} {x : Ex} (hx : p.exprs[e]? = some x) : (deeps p.exprs).getD e 0 = maxOf (deeps p.exprs) (partsE x) + 1 := by
  have hlt : e < p.exprs.length := (List.getElem?_eq_some_iff.1 hx).1
  have h1 := deeps_pre p.exprs (e + 1) e (by omega) (by omega)
  rw [← h1, deeps_take hx]
  unfold stepD
  have hl : (deeps (p.exprs.take e)).length = e := by rw [deeps_len, List.length_take]; omega
  have h2 : (deeps (p.exprs.take e) ++ [maxOf (deeps (p.exprs.take e)) (partsE x) + 1]).getD e 0 = maxOf (deeps (p.exprs.take e)) (partsE x) + 1 := by
    rw [List.getD_eq_getElem?_getD, List.getElem?_append_right (by omega), hl]
    simp
  rw [h2]
  congr 1
  have hp := may_part hm hx
  unfold maxOf
  have : ∀ (ps : List Int) (acc : Nat), (∀ z ∈ ps, 0 ≤ z ∧ z < (e : Int)) → ps.foldl (fun m q => max m ((deeps (p.exprs.take e)).getD q.toNat 0)) acc = ps.foldl (fun m q => max m ((deeps p.exprs).getD q.toNat 0)) acc := by
    intro ps
    induction ps with
    | nil => intro acc _; rfl
    | cons q ps ih =>
      intro acc h
      rw [List.foldl_cons, List.foldl_cons, deeps_pre p.exprs e q.toNat (by have := h q (List.mem_cons_self ..); omega) (by omega)]
      exact ih _ fun z hz => h z (List.mem_cons_of_mem _ hz)
  exact this _ _ hp
theorem deep_same {p q : Pr} (h1 : mayP p = true) (h2 : mayP q = true) : ∀ a : Nat, a < p.exprs.length → ∀ b : Nat, b < q.exprs.length → sameL p.exprs q.exprs a b = true → (deeps p.exprs).getD a 0 = (deeps q.exprs).getD b 0 := by
  intro a
  induction a using Nat.strongRecOn with
  | _ a ih =>
  intro ha b hb hs
  have hx := List.getElem?_eq_getElem ha
  have hy := List.getElem?_eq_getElem hb
  rw [sameL_eq (ahead_of_may h1) hx hy, Bool.and_eq_true, Bool.and_eq_true, decide_eq_true_eq, List.all_eq_true] at hs
  rw [deeps_at h1 hx, deeps_at h2 hy]
  congr 1
  unfold maxOf
  refine maxOf_congr _ _ _ _ _ hs.1.2 fun z hz => ?_
  have e1 := may_part h1 hx z.1 (List.of_mem_zip hz).1
  have e2 := may_part h2 hy z.2 (List.of_mem_zip hz).2
  exact ih z.1.toNat (by omega) (by omega) z.2.toNat (by omega) (hs.2 z hz)
set_option maxHeartbeats 8000000 in
set_option maxRecDepth 100000 in
theorem same_any (sd1 se1 sd2 se2 : Value) (p q : Pr) (a b : Int) (w : World) (hp : ProgAt w sd1 se1 p) (hq : ProgAt w sd2 se2 q) (hS1 : Small p) (hS2 : Small q) :
    Calls Try.prog 7 #[.agg #[sd1, se1], .int .i64 a, .agg #[sd2, se2], .int .i64 b] w fun r Y => r = .returned (.bool (sameA p a q b)) ∧ Below w.heap.size w Y := by
  have HP := Lib.hid hp
  have HQ := Lib.hid hq
  obtain ⟨⟨o1, d1, db1, do1, rfl, hd1, hd2, hd3, hd4⟩, ⟨oe1, cap1, b1, f1, rfl, he1, he2, he3, he4⟩, h3, h4⟩ := id hp
  obtain ⟨⟨o2, d2, db2, do2, rfl, kd1, kd2, kd3, kd4⟩, ⟨oe2, cap2, b2, f2, rfl, ke1, ke2, ke3, ke4⟩, k3, k4⟩ := id hq
  cases hi1 : inP p a with
  | true =>
    cases hi2 : inP q b with
    | true =>
      have j1 := hi1
      have j2 := hi2
      unfold inP at j1 j2
      rw [Bool.and_eq_true, Bool.and_eq_true, decide_eq_true_eq, decide_eq_true_eq] at j1 j2
      obtain ⟨⟨a0, a1⟩, hm1⟩ := j1
      obtain ⟨⟨b0, b1'⟩, hm2⟩ := j2
      obtain ⟨na, rfl⟩ := Int.eq_ofNat_of_zero_le a0
      obtain ⟨nb, rfl⟩ := Int.eq_ofNat_of_zero_le b0
      obtain rfl := he3 (by omega)
      obtain rfl := ke3 (by omega)
      unfold CapOk maxLen at he2 ke2
      have hsm : sameA p (na : Int) q (nb : Int) = sameL p.exprs q.exprs na nb := by unfold sameA; rw [hi1, hi2]; rfl
      rw [hsm]
      exact same_core p q o1 o2 _ d1 b1 f1 cap1 _ _ d2 b2 f2 cap2 _ (Lib.hid rfl) (Lib.hid rfl) (by have := hS1.exprs; omega) (by have := hS2.exprs; omega) (by omega) (by omega) (by omega) (by omega) (Lib.hid hm1) (Lib.hid hm2) (Lib.hid hS1) (Lib.hid hS2) w HP HQ (Lib.hid he4) (Lib.hid ke4) na nb (by omega) (by omega)
    | false =>
      have hsm : sameA p a q b = false := by unfold sameA; rw [hi1, hi2]; rfl
      rw [hsm]
      obtain ⟨Wb, hWb⟩ : ∃ Wb, Wb = (w.alloc (.cells #[.slice o1 p.decls.length d1, .slice oe1 p.exprs.length cap1] 25)).alloc (.cells #[.slice o2 q.decls.length d2, .slice oe2 q.exprs.length cap2] 25) := ⟨_, rfl⟩
      have hbb : Below w.heap.size w Wb := by rw [hWb]; exact below_al (below_al (Below.refl _ w) _) _
      have qb : Wb.heap[w.heap.size + 1]? = some (.cells #[.slice o2 q.decls.length d2, .slice oe2 q.exprs.length cap2] 25 (0, 0)) := by rw [hWb]; exact (two_alloc w _ _).2
      have pb : Wb.heap[w.heap.size]? = some (.cells #[.slice o1 p.decls.length d1, .slice oe1 p.exprs.length cap1] 25 (0, 0)) := by rw [hWb]; exact (two_alloc w _ _).1
      have p0 : Wb.cell? ⟨w.heap.size, 0, none⟩ = some (.slice o1 p.decls.length d1) := by simp [World.cell?, pb]
      have p1 : Wb.cell? ⟨w.heap.size, 1, none⟩ = some (.slice oe1 p.exprs.length cap1) := by simp [World.cell?, pb]
      have q0 : Wb.cell? ⟨w.heap.size + 1, 0, none⟩ = some (.slice o2 q.decls.length d2) := by simp [World.cell?, qb]
      have q1 : Wb.cell? ⟨w.heap.size + 1, 1, none⟩ = some (.slice oe2 q.exprs.length cap2) := by simp [World.cell?, qb]
      have CI1 := Lib.hid (isIn_any _ _ p a Wb (hp.below hbb) hS1)
      have CI2 : Hid (∀ V, Below Wb.heap.size Wb V → Calls Try.prog 18 #[.agg #[.slice o2 q.decls.length d2, .slice oe2 q.exprs.length cap2], .int .i64 b] V fun r w' => MayPost false V r w') := Lib.hid fun V hV => by
        have h := isIn_any _ _ q b V (hq.below (hbb.trans (hV.mono hbb.size))) hS2
        rwa [hi2] at h
      rw [hi1] at CI1
      have HB := Lib.hid hbb
      have tok : True := trivial
      clear hp hq hS1 hS2 hi1 hi2 hsm hbb qb pb hd1 hd2 hd3 hd4 he1 he2 he3 he4 h3 h4 kd1 kd2 kd3 kd4 ke1 ke2 ke3 ke4 k3 k4
      go_enter Try.func7, Try.ntmps7
      go_wp2_with (fail)
      rw [← hWb]
      clear hWb
      go_wp2_with (first
        | (go_at_call 18; have _k := tok; clear tok _k; ((with_reducible refine CI1.out.mono ?_)); rintro r V1 ⟨rfl, hV1⟩; have HV1 := Lib.hid hV1; replace p0 := cell_on hV1 p0; replace p1 := cell_on hV1 p1; replace q0 := cell_on hV1 q0; replace q1 := cell_on hV1 q1; clear hV1)
        | (go_at_call 18; ((with_reducible refine (CI2.out _ HV1.out).mono ?_)); rintro r V2 ⟨rfl, hV2⟩; have HV2 := Lib.hid (HV1.out.trans (hV2.mono HV1.out.size)); clear hV2))
      go_ret
      exact ⟨rfl, HB.out.trans (HV2.out.mono HB.out.size)⟩
  | false =>
    have hsm : sameA p a q b = false := by unfold sameA; rw [hi1]; rfl
    rw [hsm]
    obtain ⟨Wb, hWb⟩ : ∃ Wb, Wb = (w.alloc (.cells #[.slice o1 p.decls.length d1, .slice oe1 p.exprs.length cap1] 25)).alloc (.cells #[.slice o2 q.decls.length d2, .slice oe2 q.exprs.length cap2] 25) := ⟨_, rfl⟩
    have hbb : Below w.heap.size w Wb := by rw [hWb]; exact below_al (below_al (Below.refl _ w) _) _
    have pb : Wb.heap[w.heap.size]? = some (.cells #[.slice o1 p.decls.length d1, .slice oe1 p.exprs.length cap1] 25 (0, 0)) := by rw [hWb]; exact (two_alloc w _ _).1
    have p0 : Wb.cell? ⟨w.heap.size, 0, none⟩ = some (.slice o1 p.decls.length d1) := by simp [World.cell?, pb]
    have p1 : Wb.cell? ⟨w.heap.size, 1, none⟩ = some (.slice oe1 p.exprs.length cap1) := by simp [World.cell?, pb]
    have CI1 := Lib.hid (isIn_any _ _ p a Wb (hp.below hbb) hS1)
    rw [hi1] at CI1
    have HB := Lib.hid hbb
    clear hp hq hS1 hS2 hi1 hsm hbb pb hd1 hd2 hd3 hd4 he1 he2 he3 he4 h3 h4 kd1 kd2 kd3 kd4 ke1 ke2 ke3 ke4 k3 k4
    go_enter Try.func7, Try.ntmps7
    go_wp2_with (fail)
    rw [← hWb]
    clear hWb
    go_wp2_with (go_at_call 18; ((with_reducible refine CI1.out.mono ?_)); rintro r V1 ⟨rfl, hV1⟩; have HV1 := Lib.hid hV1; clear hV1)
    go_ret
    exact ⟨rfl, HB.out.trans (HV1.out.mono HB.out.size)⟩
/-- are two programs the same -/
def sameP (p q : Pr) : Bool := mayP p && mayP q && sameDes p.exprs q.exprs p.decls q.decls
set_option maxHeartbeats 8000000 in
set_option maxRecDepth 100000 in
theorem sameAll_any (sd1 se1 sd2 se2 : Value) (p q : Pr) (w : World) (hp : ProgAt w sd1 se1 p) (hq : ProgAt w sd2 se2 q) (hS1 : Small p) (hS2 : Small q) :
    Calls Try.prog 8 #[.agg #[sd1, se1], .agg #[sd2, se2]] w fun r Y => r = .returned (.bool (sameP p q)) ∧ Below w.heap.size w Y := by
  have HP := Lib.hid hp
  have HQ := Lib.hid hq
  obtain ⟨⟨o1, d1, db1, do1, rfl, hd1, hd2, hd3, hd4⟩, ⟨oe1, cap1, b1, f1, rfl, he1, he2, he3, he4⟩, h3, h4⟩ := id hp
  obtain ⟨⟨o2, d2, db2, do2, rfl, kd1, kd2, kd3, kd4⟩, ⟨oe2, cap2, b2, f2, rfl, ke1, ke2, ke3, ke4⟩, k3, k4⟩ := id hq
  cases hi1 : mayP p with
  | true =>
    cases hi2 : mayP q with
    | true =>
      unfold CapOk maxLen at he2 ke2
      refine (sameAll_core p q o1 o2 oe1 oe2 _ d1 b1 f1 cap1 _ _ d2 b2 f2 cap2 _ (Lib.hid he3) (Lib.hid ke3) (Lib.hid rfl) (Lib.hid rfl) (by have := hS1.exprs; omega) (by have := hS2.exprs; omega) (by omega) (by omega) (by omega) (by omega) (Lib.hid hi1) (Lib.hid hi2) (Lib.hid hS1) (Lib.hid hS2) w HP HQ (Lib.hid he4) (Lib.hid ke4)).mono ?_
      rintro r Y ⟨⟨cs, ds, F, G, last, rfl, c1, c2, g⟩, hb⟩
      refine ⟨?_, hb⟩
      unfold sameP
      rw [declsC_eq g hi1 hi2 c1 c2, hi1, hi2]
      rfl
    | false =>
      have hsm : sameP p q = false := by unfold sameP; rw [hi1, hi2]; rfl
      rw [hsm]
      obtain ⟨Wb, hWb⟩ : ∃ Wb, Wb = (w.alloc (.cells #[.slice o1 p.decls.length d1, .slice oe1 p.exprs.length cap1] 25)).alloc (.cells #[.slice o2 q.decls.length d2, .slice oe2 q.exprs.length cap2] 25) := ⟨_, rfl⟩
      have hbb : Below w.heap.size w Wb := by rw [hWb]; exact below_al (below_al (Below.refl _ w) _) _
      have qb : Wb.heap[w.heap.size + 1]? = some (.cells #[.slice o2 q.decls.length d2, .slice oe2 q.exprs.length cap2] 25 (0, 0)) := by rw [hWb]; exact (two_alloc w _ _).2
      have pb : Wb.heap[w.heap.size]? = some (.cells #[.slice o1 p.decls.length d1, .slice oe1 p.exprs.length cap1] 25 (0, 0)) := by rw [hWb]; exact (two_alloc w _ _).1
      have p0 : Wb.cell? ⟨w.heap.size, 0, none⟩ = some (.slice o1 p.decls.length d1) := by simp [World.cell?, pb]
      have p1 : Wb.cell? ⟨w.heap.size, 1, none⟩ = some (.slice oe1 p.exprs.length cap1) := by simp [World.cell?, pb]
      have q0 : Wb.cell? ⟨w.heap.size + 1, 0, none⟩ = some (.slice o2 q.decls.length d2) := by simp [World.cell?, qb]
      have q1 : Wb.cell? ⟨w.heap.size + 1, 1, none⟩ = some (.slice oe2 q.exprs.length cap2) := by simp [World.cell?, qb]
      have CI1 := Lib.hid (may_any _ _ p Wb (hp.below hbb) hS1)
      have CI2 : Hid (∀ V, Below Wb.heap.size Wb V → Calls Try.prog 20 #[.agg #[.slice o2 q.decls.length d2, .slice oe2 q.exprs.length cap2]] V fun r w' => MayPost false V r w') := Lib.hid fun V hV => by
        have h := may_any _ _ q V (hq.below (hbb.trans (hV.mono hbb.size))) hS2
        rwa [hi2] at h
      rw [hi1] at CI1
      have HB := Lib.hid hbb
      have tok : True := trivial
      clear hp hq hS1 hS2 hi1 hi2 hsm hbb qb pb hd1 hd2 hd3 hd4 he1 he2 he3 he4 h3 h4 kd1 kd2 kd3 kd4 ke1 ke2 ke3 ke4 k3 k4
      go_enter Try.func8, Try.ntmps8
      go_wp2_with (fail)
      rw [← hWb]
      clear hWb
      go_wp2_with (first
        | (go_at_call 20; have _k := tok; clear tok _k; ((with_reducible refine CI1.out.mono ?_)); rintro r V1 ⟨rfl, hV1⟩; have HV1 := Lib.hid hV1; replace p0 := cell_on hV1 p0; replace p1 := cell_on hV1 p1; replace q0 := cell_on hV1 q0; replace q1 := cell_on hV1 q1; clear hV1)
        | (go_at_call 20; ((with_reducible refine (CI2.out _ HV1.out).mono ?_)); rintro r V2 ⟨rfl, hV2⟩; have HV2 := Lib.hid (HV1.out.trans (hV2.mono HV1.out.size)); clear hV2))
      go_ret
      exact ⟨rfl, HB.out.trans (HV2.out.mono HB.out.size)⟩
  | false =>
    have hsm : sameP p q = false := by unfold sameP; rw [hi1]; rfl
    rw [hsm]
    obtain ⟨Wb, hWb⟩ : ∃ Wb, Wb = (w.alloc (.cells #[.slice o1 p.decls.length d1, .slice oe1 p.exprs.length cap1] 25)).alloc (.cells #[.slice o2 q.decls.length d2, .slice oe2 q.exprs.length cap2] 25) := ⟨_, rfl⟩
    have hbb : Below w.heap.size w Wb := by rw [hWb]; exact below_al (below_al (Below.refl _ w) _) _
    have pb : Wb.heap[w.heap.size]? = some (.cells #[.slice o1 p.decls.length d1, .slice oe1 p.exprs.length cap1] 25 (0, 0)) := by rw [hWb]; exact (two_alloc w _ _).1
    have p0 : Wb.cell? ⟨w.heap.size, 0, none⟩ = some (.slice o1 p.decls.length d1) := by simp [World.cell?, pb]
    have p1 : Wb.cell? ⟨w.heap.size, 1, none⟩ = some (.slice oe1 p.exprs.length cap1) := by simp [World.cell?, pb]
    have CI1 := Lib.hid (may_any _ _ p Wb (hp.below hbb) hS1)
    rw [hi1] at CI1
    have HB := Lib.hid hbb
    clear hp hq hS1 hS2 hi1 hsm hbb pb hd1 hd2 hd3 hd4 he1 he2 he3 he4 h3 h4 kd1 kd2 kd3 kd4 ke1 ke2 ke3 ke4 k3 k4
    go_enter Try.func8, Try.ntmps8
    go_wp2_with (fail)
    rw [← hWb]
    clear hWb
    go_wp2_with (go_at_call 20; ((with_reducible refine CI1.out.mono ?_)); rintro r V1 ⟨rfl, hV1⟩; have HV1 := Lib.hid hV1; clear hV1)
    go_ret
    exact ⟨rfl, HB.out.trans (HV1.out.mono HB.out.size)⟩
end
section
open Go.RowKit Go.Shelf

attribute [local go_sem] Oper.semAt_some

set_option maxHeartbeats 8000000 in
set_option maxRecDepth 100000 in
theorem sameLaw_core (p q : Pr) (o1 o2 oe1 oe2 : Option Addr) (m1 d1 b1 f1 cap1 n1 m2 d2 b2 f2 cap2 n2 e1 g1 e2 g2 : Nat) (ho1 : Hid (0 < n1 → oe1 = some ⟨b1, f1, none⟩)) (ho2 : Hid (0 < n2 → oe2 = some ⟨b2, f2, none⟩)) (hn1 : Hid (p.exprs.length = n1)) (hn2 : Hid (q.exprs.length = n2)) (w : World)
    (hp : Hid (ProgAt w (.slice o1 m1 d1) (.slice oe1 n1 cap1) p)) (hq : Hid (ProgAt w (.slice o2 m2 d2) (.slice oe2 n2 cap2) q))
    (hc1 : Hid (∀ i, i < n1 → ∀ x, p.exprs[i]? = some x → ExAt w b1 (f1 + i * 9) x)) (hc2 : Hid (∀ i, i < n2 → ∀ x, q.exprs[i]? = some x → ExAt w b2 (f2 + i * 9) x))
    (M1 : Hid (p.decls.length = m1)) (M2 : Hid (q.decls.length = m2)) (E1 : Hid (0 < m1 → o1 = some ⟨e1, g1, none⟩)) (E2 : Hid (0 < m2 → o2 = some ⟨e2, g2, none⟩))
    (C1 : Hid (∀ i, i < m1 → ∀ x, p.decls[i]? = some x → DeAt w e1 (g1 + i * 7) x)) (C2 : Hid (∀ i, i < m2 → ∀ x, q.decls[i]? = some x → DeAt w e2 (g2 + i * 7) x))
    (a b : Int) :
    Calls Try.prog 3 #[.agg #[.slice o1 m1 d1, .slice oe1 n1 cap1], .int .i64 a, .agg #[.slice o2 m2 d2, .slice oe2 n2 cap2], .int .i64 b] w fun r Y => r = .returned (.bool true) ∧ Below w.heap.size w Y := by
  obtain ⟨Wb, hWb⟩ : ∃ Wb, Wb = (w.alloc (.cells #[.slice o1 m1 d1, .slice oe1 n1 cap1] 25)).alloc (.cells #[.slice o2 m2 d2, .slice oe2 n2 cap2] 25) := ⟨_, rfl⟩
  have bb : Below w.heap.size w Wb := by rw [hWb]; exact below_al (below_al (Below.refl _ w) _) _
  have pb : Wb.heap[w.heap.size]? = some (.cells #[.slice o1 m1 d1, .slice oe1 n1 cap1] 25 (0, 0)) := by
    rw [hWb]; exact (two_alloc w _ _).1
  have qb : Wb.heap[w.heap.size + 1]? = some (.cells #[.slice o2 m2 d2, .slice oe2 n2 cap2] 25 (0, 0)) := by
    rw [hWb]; exact (two_alloc w _ _).2
  have p0 : Wb.cell? ⟨w.heap.size, 0, none⟩ = some (.slice o1 m1 d1) := by simp [World.cell?, pb]
  have p1 : Wb.cell? ⟨w.heap.size, 1, none⟩ = some (.slice oe1 n1 cap1) := by simp [World.cell?, pb]
  have q0 : Wb.cell? ⟨w.heap.size + 1, 0, none⟩ = some (.slice o2 m2 d2) := by simp [World.cell?, qb]
  have q1 : Wb.cell? ⟨w.heap.size + 1, 1, none⟩ = some (.slice oe2 n2 cap2) := by simp [World.cell?, qb]
  have HB := Lib.hid bb
  have CA := Lib.hid (alive_any Wb)
  have CG1 : Hid (∀ W, Below w.heap.size w W → Calls Try.prog 5 #[.agg #[.slice o1 m1 d1, .slice oe1 n1 cap1]] W fun e w' => GreatPost p W e w') := Lib.hid fun W hW => great_any _ _ p W (hp.out.below hW)
  have CG2 : Hid (∀ W, Below w.heap.size w W → Calls Try.prog 5 #[.agg #[.slice o2 m2 d2, .slice oe2 n2 cap2]] W fun e w' => GreatPost q W e w') := Lib.hid fun W hW => great_any _ _ q W (hq.out.below hW)
  clear bb pb qb
  go_enter Try.func3, Try.ntmps3
  go_wp2_with (fail)
  rw [← hWb]
  clear hWb
  go_wp2_with (fail)
  go_at_call 4
  ((with_reducible refine CA.out.mono ?_))
  rintro r V1 ⟨rfl, hb⟩
  replace p0 := cell_on hb p0
  replace p1 := cell_on hb p1
  replace q0 := cell_on hb q0
  replace q1 := cell_on hb q1
  have HV1 := Lib.hid (HB.out.trans (hb.mono HB.out.size))
  clear hb CA
  go_wp2_with (fail)
  go_at_call 5
  ((with_reducible refine (CG1.out V1 HV1.out).mono ?_))
  rintro r V2 ⟨g, rfl, hg, hb⟩
  replace p0 := cell_on hb p0
  replace p1 := cell_on hb p1
  replace q0 := cell_on hb q0
  replace q1 := cell_on hb q1
  have HV2 := Lib.hid (HV1.out.trans (hb.mono HV1.out.size))
  clear hb CG1
  cases g with
  | true =>
    clear hg
    go_wp2_with (fail)
    exact ⟨rfl, _, results_tmp (t := 8) (by kernel_rfl) _ _ _, rfl, HV2.out⟩
  | false =>
  have hS1 := Lib.hid (hg rfl)
  clear hg
  go_wp2_with (fail)
  go_at_call 5
  ((with_reducible refine (CG2.out V2 HV2.out).mono ?_))
  rintro r V3 ⟨g, rfl, hg, hb⟩
  replace p0 := cell_on hb p0
  replace p1 := cell_on hb p1
  replace q0 := cell_on hb q0
  replace q1 := cell_on hb q1
  have HV3 := Lib.hid (HV2.out.trans (hb.mono HV2.out.size))
  clear hb CG2
  cases g with
  | true =>
    clear hg
    go_wp2_with (fail)
    exact ⟨rfl, _, results_tmp (t := 8) (by kernel_rfl) _ _ _, rfl, HV3.out⟩
  | false =>
  have hS2 := Lib.hid (hg rfl)
  clear hg
  have nl1 : (n1 : Int) ≤ 300 := by have := hS1.out.exprs; have := hn1.out; omega
  have nl2 : (n2 : Int) ≤ 300 := by have := hS2.out.exprs; have := hn2.out; omega
  obtain ⟨v1, hv1⟩ : ∃ v, v = mayP p := ⟨_, rfl⟩
  obtain ⟨v2, hv2⟩ : ∃ v, v = mayP q := ⟨_, rfl⟩
  have CM1 : Hid (∀ W, Below w.heap.size w W → Calls Try.prog 6 #[.agg #[.slice o1 m1 d1, .slice oe1 n1 cap1]] W fun e w' => MayPost v1 W e w') := Lib.hid fun W hW => by rw [hv1]; exact refMay_any _ _ p W (hp.out.below hW) hS1.out
  have CM2 : Hid (∀ W, Below w.heap.size w W → Calls Try.prog 6 #[.agg #[.slice o2 m2 d2, .slice oe2 n2 cap2]] W fun e w' => MayPost v2 W e w') := Lib.hid fun W hW => by rw [hv2]; exact refMay_any _ _ q W (hq.out.below hW) hS2.out
  have CS : Hid (∀ W, Below w.heap.size w W → Calls Try.prog 7 #[.agg #[.slice o1 m1 d1, .slice oe1 n1 cap1], .int .i64 a, .agg #[.slice o2 m2 d2, .slice oe2 n2 cap2], .int .i64 b] W fun r Y => r = .returned (.bool (sameA p a q b)) ∧ Below W.heap.size W Y) := Lib.hid fun W hW => same_any _ _ _ _ p q a b W (hp.out.below hW) (hq.out.below hW) hS1.out hS2.out
  have CL : Hid (∀ W, Below w.heap.size w W → Calls Try.prog 8 #[.agg #[.slice o1 m1 d1, .slice oe1 n1 cap1], .agg #[.slice o2 m2 d2, .slice oe2 n2 cap2]] W fun r Y => r = .returned (.bool (sameP p q)) ∧ Below W.heap.size W Y) := Lib.hid fun W hW => sameAll_any _ _ _ _ p q W (hp.out.below hW) (hq.out.below hW) hS1.out hS2.out
  have HM1 := Lib.hid hv1
  have HM2 := Lib.hid hv2
  clear hv1 hv2
  have hbad : v1 = false ∨ v2 = false → sameA p a q b = false ∧ sameP p q = false := fun h => by
    unfold sameA sameP inP
    rw [← HM1.out, ← HM2.out]
    rcases h with h | h <;> simp [h]
  have HBAD := Lib.hid hbad
  clear hbad
  cases v1 with
  | false =>
    rw [(HBAD.out (.inl rfl)).1] at CS
    rw [(HBAD.out (.inl rfl)).2] at CL
    go_wp2_with (first
      | (go_at_call 6; ((with_reducible refine (CM1.out _ HV3.out).mono ?_)); rintro r V4 ⟨rfl, hb⟩; replace p0 := cell_on hb p0; replace p1 := cell_on hb p1; replace q0 := cell_on hb q0; replace q1 := cell_on hb q1; have HV4 := Lib.hid (HV3.out.trans (hb.mono HV3.out.size)); clear hb)
      | (go_at_call 7; ((with_reducible refine (CS.out _ HV4.out).mono ?_)); rintro r V5 ⟨rfl, hb⟩; replace p0 := cell_on hb p0; replace p1 := cell_on hb p1; replace q0 := cell_on hb q0; replace q1 := cell_on hb q1; have HV5 := Lib.hid (HV4.out.trans (hb.mono HV4.out.size)); clear hb)
      | (go_at_call 8; ((with_reducible refine (CL.out _ HV5.out).mono ?_)); rintro r V6 ⟨rfl, hb⟩; have HV6 := Lib.hid (HV5.out.trans (hb.mono HV5.out.size)); clear hb))
    exact ⟨rfl, _, results_tmp (t := 8) (by kernel_rfl) _ _ _, rfl, HV6.out⟩
  | true =>
  cases v2 with
  | false =>
    rw [(HBAD.out (.inr rfl)).1] at CS
    rw [(HBAD.out (.inr rfl)).2] at CL
    go_wp2_with (first
      | (go_at_call 6; ((with_reducible refine (CM1.out _ HV3.out).mono ?_)); rintro r V4 ⟨rfl, hb⟩; replace p0 := cell_on hb p0; replace p1 := cell_on hb p1; replace q0 := cell_on hb q0; replace q1 := cell_on hb q1; have HV4 := Lib.hid (HV3.out.trans (hb.mono HV3.out.size)); clear hb)
      | (go_at_call 6; ((with_reducible refine (CM2.out _ HV4.out).mono ?_)); rintro r V7 ⟨rfl, hb⟩; replace p0 := cell_on hb p0; replace p1 := cell_on hb p1; replace q0 := cell_on hb q0; replace q1 := cell_on hb q1; have HV7 := Lib.hid (HV4.out.trans (hb.mono HV4.out.size)); clear hb)
      | (go_at_call 7; ((with_reducible refine (CS.out _ HV7.out).mono ?_)); rintro r V5 ⟨rfl, hb⟩; replace p0 := cell_on hb p0; replace p1 := cell_on hb p1; replace q0 := cell_on hb q0; replace q1 := cell_on hb q1; have HV5 := Lib.hid (HV7.out.trans (hb.mono HV7.out.size)); clear hb)
      | (go_at_call 8; ((with_reducible refine (CL.out _ HV5.out).mono ?_)); rintro r V6 ⟨rfl, hb⟩; have HV6 := Lib.hid (HV5.out.trans (hb.mono HV5.out.size)); clear hb))
    exact ⟨rfl, _, results_tmp (t := 8) (by kernel_rfl) _ _ _, rfl, HV6.out⟩
  | true =>
  have hm1 := Lib.hid HM1.out.symm
  have hm2 := Lib.hid HM2.out.symm
  go_wp2_with (first
    | (go_at_call 6; ((with_reducible refine (CM1.out _ HV3.out).mono ?_)); rintro r V4 ⟨rfl, hb⟩; replace p0 := cell_on hb p0; replace p1 := cell_on hb p1; replace q0 := cell_on hb q0; replace q1 := cell_on hb q1; have HV4 := Lib.hid (HV3.out.trans (hb.mono HV3.out.size)); clear hb)
    | (go_at_call 6; ((with_reducible refine (CM2.out _ HV4.out).mono ?_)); rintro r V5 ⟨rfl, hb⟩; replace p0 := cell_on hb p0; replace p1 := cell_on hb p1; replace q0 := cell_on hb q0; replace q1 := cell_on hb q1; have HV5 := Lib.hid (HV4.out.trans (hb.mono HV4.out.size)); clear hb))
  clear CM1 CM2
  have CZ : Hid (∀ i, i < n1 → ∀ W, Below w.heap.size w W → ∃ sz : Nat, Calls Try.prog 9 #[.agg #[.slice o1 m1 d1, .slice oe1 n1 cap1], .int .i64 (i : Int), .int .i64 300] W fun r Y => r = .returned (.int .i64 (sz : Int)) ∧ Below W.heap.size W Y) := Lib.hid fun i hi W hW => by
    obtain rfl := ho1.out (by omega)
    exact ⟨_, size_core p o1 m1 d1 b1 f1 cap1 n1 hn1 nl1 hm1 hS1 W (Lib.hid fun i hi x hx => (hc1.out i hi x hx).below hW) 300 (by omega) i hi⟩
  --LOOP
  clear HBAD
  have HBb := Lib.hid HB.out
  go_loopw [9] (fun i wr => ∃ (c : Nat), i = .int .i64 (c : Int) ∧ c ≤ n1 ∧ Hid (Below V5.heap.size V5 wr)) (fun i _ => n1 - litLen i)
  case atStart => exact ⟨0, rfl, Nat.zero_le _, Lib.hid (Below.refl _ _)⟩
  case round =>
    obtain ⟨c, rfl, hc, hWr⟩ := hrel
    replace p0 := cell_on hWr.out p0
    replace p1 := cell_on hWr.out p1
    replace q0 := cell_on hWr.out q0
    replace q1 := cell_on hWr.out q1
    have HWr := Lib.hid (HV5.out.trans (hWr.out.mono HV5.out.size))
    rcases Nat.lt_or_ge c n1 with hlt | hge
    · have hl : (c : Int) < (n1 : Int) := by omega
      obtain ⟨sz, hsz⟩ := CZ.out c hlt wr HWr.out
      have CZ1 := Lib.hid hsz
      clear hsz
      by_cases hbig : 300 ≤ sz
      · have hbig2 : (300 : Int) ≤ (sz : Int) := by omega
        go_wp2_with (go_at_call 9; ((with_reducible refine CZ1.out.mono ?_)); rintro r w4 ⟨rfl, hb⟩; have hb4 := Lib.hid (HWr.out.trans (hb.mono HWr.out.size)); clear hb CZ1)
        go_ret
        exact ⟨rfl, hb4.out⟩
      have hbig2 : ¬ (300 : Int) ≤ (sz : Int) := by omega
      clear hbig
      go_wp2_with (go_at_call 9; ((with_reducible refine CZ1.out.mono ?_)); rintro r w4 ⟨rfl, hb⟩; have hb4 := Lib.hid (hWr.out.trans (hb.mono hWr.out.size)); clear hb CZ1)
      exact ⟨⟨c + 1, by go_num, by omega, hb4⟩, by simp [litLen]; omega⟩
    · obtain rfl : n1 = c := by omega
      have hno : ¬ (n1 : Int) < (n1 : Int) := by omega
      clear CZ
      obtain ⟨sv, hsv⟩ : ∃ v, v = sameDes p.exprs q.exprs p.decls q.decls := ⟨_, rfl⟩
      have hgr : ∀ pr : Regrown, Below w.heap.size w (Go.Sort.grow (redrawn wr pr.d) pr.os) := fun pr => HWr.out.trans ((below_regrown wr pr.d pr.os).mono HWr.out.size)
      have CSA : Hid (∀ pr : Regrown, Calls Try.prog 8 #[.agg #[.slice o1 m1 d1, .slice oe1 n1 cap1], .agg #[.slice o2 m2 d2, .slice oe2 n2 cap2]] (Go.Sort.grow (redrawn wr pr.d) pr.os) fun e w'' => e = .returned (.bool sv) ∧ ∃ p : Regrown, w'' = Go.Sort.grow (redrawn wr p.d) p.os) := Lib.hid fun pr => Calls.regrown_of (by
        have h := CL.out _ (hgr pr)
        rwa [show sameP p q = sv by unfold sameP; rw [hm1.out, hm2.out, hsv]; rfl] at h)
      have CRA : Hid (∀ pr : Regrown, Calls Try.prog 10 #[.agg #[.slice o1 m1 d1, .slice oe1 n1 cap1], .agg #[.slice o2 m2 d2, .slice oe2 n2 cap2]] (Go.Sort.grow (redrawn wr pr.d) pr.os) fun e w'' => e = .returned (.bool sv) ∧ ∃ p : Regrown, w'' = Go.Sort.grow (redrawn wr p.d) p.os) := Lib.hid fun pr => Calls.regrown_of (by
        rw [hsv]
        exact refAll_core p q o1 o2 oe1 oe2 m1 d1 b1 f1 cap1 n1 m2 d2 b2 f2 cap2 n2 e1 g1 e2 g2 ho1 ho2 hn1 hn2 nl1 nl2 hm1 hm2 hS1 hS2 _ (Lib.hid fun i hi x hx => (hc1.out i hi x hx).below (hgr pr)) (Lib.hid fun i hi x hx => (hc2.out i hi x hx).below (hgr pr)) M1 M2 (by have := hS1.out.decls; have := M1.out; omega) (by have := hS2.out.decls; have := M2.out; omega) E1 E2 (Lib.hid fun i hi x hx => (C1.out i hi x hx).below (hgr pr)) (Lib.hid fun i hi x hx => (C2.out i hi x hx).below (hgr pr)))
      have CPP : Hid (∀ pr : Regrown, Calls Try.prog 8 #[.agg #[.slice o1 m1 d1, .slice oe1 n1 cap1], .agg #[.slice o1 m1 d1, .slice oe1 n1 cap1]] (Go.Sort.grow (redrawn wr pr.d) pr.os) fun e w'' => e = .returned (.bool true) ∧ ∃ p : Regrown, w'' = Go.Sort.grow (redrawn wr p.d) p.os) := Lib.hid fun pr => Calls.regrown_of (by
        have h := sameAll_any _ _ _ _ p p _ (hp.out.below (hgr pr)) (hp.out.below (hgr pr)) hS1.out hS1.out
        rwa [show sameP p p = true by unfold sameP; rw [hm1.out, sameDes_refl hm1.out]; rfl] at h)
      have CQQ : Hid (∀ pr : Regrown, Calls Try.prog 8 #[.agg #[.slice o2 m2 d2, .slice oe2 n2 cap2], .agg #[.slice o2 m2 d2, .slice oe2 n2 cap2]] (Go.Sort.grow (redrawn wr pr.d) pr.os) fun e w'' => e = .returned (.bool true) ∧ ∃ p : Regrown, w'' = Go.Sort.grow (redrawn wr p.d) p.os) := Lib.hid fun pr => Calls.regrown_of (by
        have h := sameAll_any _ _ _ _ q q _ (hq.out.below (hgr pr)) (hq.out.below (hgr pr)) hS2.out hS2.out
        rwa [show sameP q q = true by unfold sameP; rw [hm2.out, sameDes_refl hm2.out]; rfl] at h)
      clear hsv hgr CL
      have hcut : Hid (∀ Q' : Prop, (sv = true → Q') → (sv = false → Q') → Q') := Lib.hid fun Q' h1 h2 => by cases sv; exact h2 rfl; exact h1 rfl
      clear hcut
      cases sv
      all_goals
        go_wp2_with (fail)
        have GP0 := fun pr : Regrown => cell_regrown p0 pr.d pr.os
        have GP1 := fun pr : Regrown => cell_regrown p1 pr.d pr.os
        have GQ0 := fun pr : Regrown => cell_regrown q0 pr.d pr.os
        have GQ1 := fun pr : Regrown => cell_regrown q1 pr.d pr.os
        have KP := Lib.hid (⟨p0, p1, q0, q1⟩ : wr.cell? ⟨w.heap.size, 0, none⟩ = some (.slice o1 m1 d1) ∧ wr.cell? ⟨w.heap.size, 1, none⟩ = some (.slice oe1 n1 cap1) ∧ wr.cell? ⟨w.heap.size + 1, 0, none⟩ = some (.slice o2 m2 d2) ∧ wr.cell? ⟨w.heap.size + 1, 1, none⟩ = some (.slice oe2 n2 cap2))
        clear p0 p1 q0 q1
        refine wp_region_quiet_below (by kernel_rfl) (by kernel_rfl) ?_
        repeat (go_big_quiet_step (first | with_reducible exact CSA.out _ | with_reducible exact CRA.out _ | with_reducible exact CPP.out _ | with_reducible exact CQQ.out _))
        refine wpQuiet_nil ?_
        intro w7 hw7
        have HB3 : Hid (Below wr.heap.size wr w7) := Lib.hid (by obtain ⟨pr, rfl⟩ := hw7; exact below_regrown _ _ _)
        clear hw7 GP0 GP1 GQ0 GQ1
        obtain ⟨p0, p1, q0, q1⟩ := KP.out
        replace p0 := cell_on HB3.out p0
        replace p1 := cell_on HB3.out p1
        replace q0 := cell_on HB3.out q0
        replace q1 := cell_on HB3.out q1
        have HW7 := Lib.hid (HWr.out.trans (HB3.out.mono HWr.out.size))
        clear KP CSA CRA CPP CQQ
        have hout : Hid ((a < 0 ∨ (n1 : Int) ≤ a) ∨ (b < 0 ∨ (n2 : Int) ≤ b) → sameA p a q b = false) := Lib.hid fun h => by
          unfold sameA inP
          rw [hn1.out, hn2.out]
          rcases h with (h | h) | (h | h)
          · rw [decide_eq_false (show ¬ (0 : Int) ≤ a by omega)]; rfl
          · rw [decide_eq_false (show ¬ a < (n1 : Int) by omega)]; simp
          · rw [decide_eq_false (show ¬ (0 : Int) ≤ b by omega)]; simp
          · rw [decide_eq_false (show ¬ b < (n2 : Int) by omega)]; simp
        by_cases hcond : a < 0
        · rw [hout.out (.inl (.inl hcond))] at CS
          have z1 : a < 0 := hcond
          clear hcond
          go_wp2_with (go_at_call 7; ((with_reducible refine (CS.out _ HW7.out).mono ?_)); rintro r V8 ⟨rfl, hb⟩; have HV8 := Lib.hid (HW7.out.trans (hb.mono HW7.out.size)); clear hb)
          go_ret
          exact ⟨rfl, HV8.out⟩
        have z1 : ¬ a < 0 := hcond
        clear hcond
        by_cases hcond : (n1 : Int) ≤ a
        · rw [hout.out (.inl (.inr hcond))] at CS
          have z2 : (n1 : Int) ≤ a := hcond
          clear hcond
          go_wp2_with (go_at_call 7; ((with_reducible refine (CS.out _ HW7.out).mono ?_)); rintro r V8 ⟨rfl, hb⟩; have HV8 := Lib.hid (HW7.out.trans (hb.mono HW7.out.size)); clear hb)
          go_ret
          exact ⟨rfl, HV8.out⟩
        have z2 : ¬ (n1 : Int) ≤ a := hcond
        clear hcond
        by_cases hcond : b < 0
        · rw [hout.out (.inr (.inl hcond))] at CS
          have z3 : b < 0 := hcond
          clear hcond
          go_wp2_with (go_at_call 7; ((with_reducible refine (CS.out _ HW7.out).mono ?_)); rintro r V8 ⟨rfl, hb⟩; have HV8 := Lib.hid (HW7.out.trans (hb.mono HW7.out.size)); clear hb)
          go_ret
          exact ⟨rfl, HV8.out⟩
        have z3 : ¬ b < 0 := hcond
        clear hcond
        by_cases hcond : (n2 : Int) ≤ b
        · rw [hout.out (.inr (.inr hcond))] at CS
          have z4 : (n2 : Int) ≤ b := hcond
          clear hcond
          go_wp2_with (go_at_call 7; ((with_reducible refine (CS.out _ HW7.out).mono ?_)); rintro r V8 ⟨rfl, hb⟩; have HV8 := Lib.hid (HW7.out.trans (hb.mono HW7.out.size)); clear hb)
          go_ret
          exact ⟨rfl, HV8.out⟩
        have z4 : ¬ (n2 : Int) ≤ b := hcond
        clear hcond hout
        obtain ⟨na, rfl⟩ := Int.eq_ofNat_of_zero_le (show (0 : Int) ≤ a by omega)
        obtain ⟨nb, rfl⟩ := Int.eq_ofNat_of_zero_le (show (0 : Int) ≤ b by omega)
        have hna : na < n1 := by omega
        have hnb : nb < n2 := by omega
        obtain ⟨ss, hss⟩ : ∃ v, v = sameL p.exprs q.exprs na nb := ⟨_, rfl⟩
        have hin1 : inP p (na : Int) = true := by unfold inP; rw [hm1.out, hn1.out, decide_eq_true (show (0 : Int) ≤ (na : Int) by omega), decide_eq_true (show (na : Int) < (n1 : Int) by omega)]; rfl
        have hin2 : inP q (nb : Int) = true := by unfold inP; rw [hm2.out, hn2.out, decide_eq_true (show (0 : Int) ≤ (nb : Int) by omega), decide_eq_true (show (nb : Int) < (n2 : Int) by omega)]; rfl
        have CR := Lib.hid (refSame_gen p q o1 o2 oe1 oe2 m1 d1 b1 f1 cap1 n1 m2 d2 b2 f2 cap2 n2 ho1 ho2 hn1 hn2 nl1 nl2 hm1 hm2 hS1 hS2 w hc1 hc2 na hna nb hnb w7 HW7.out)
        rw [← hss] at CR
        rw [show sameA p (na : Int) q (nb : Int) = ss by unfold sameA; rw [hin1, hin2, hss]; rfl] at CS
        obtain ⟨dp, hdp⟩ : ∃ d, d = (deeps p.exprs).getD na 0 := ⟨_, rfl⟩
        obtain ⟨dq, hdq⟩ : ∃ d, d = (deeps q.exprs).getD nb 0 := ⟨_, rfl⟩
        have hdd : Hid (ss = true → dp = dq) := Lib.hid fun h => by
          rw [hdp, hdq]
          exact deep_same hm1.out hm2.out na (by rw [hn1.out]; exact hna) nb (by rw [hn2.out]; exact hnb) (by rw [← hss]; exact h)
        have HDP := Lib.hid hdp
        have HDQ := Lib.hid hdq
        clear hss hdp hdq
        go_wp2_with (go_at_call 11; ((with_reducible refine CR.out.mono ?_)); rintro r V8 ⟨rfl, hb⟩; replace p0 := cell_on hb p0; replace p1 := cell_on hb p1; replace q0 := cell_on hb q0; replace q1 := cell_on hb q1; have HV8 := Lib.hid (HW7.out.trans (hb.mono HW7.out.size)); clear hb CR)
        have hgr : ∀ pr : Regrown, Below w.heap.size w (Go.Sort.grow (redrawn V8 pr.d) pr.os) := fun pr => HV8.out.trans ((below_regrown V8 pr.d pr.os).mono HV8.out.size)
        have CS1 : Hid (∀ pr : Regrown, Calls Try.prog 7 #[.agg #[.slice o1 m1 d1, .slice oe1 n1 cap1], .int .i64 (na : Int), .agg #[.slice o2 m2 d2, .slice oe2 n2 cap2], .int .i64 (nb : Int)] (Go.Sort.grow (redrawn V8 pr.d) pr.os) fun e w'' => e = .returned (.bool ss) ∧ ∃ p : Regrown, w'' = Go.Sort.grow (redrawn V8 p.d) p.os) := Lib.hid fun pr => Calls.regrown_of (CS.out _ (hgr pr))
        have CS2 : Hid (∀ pr : Regrown, Calls Try.prog 7 #[.agg #[.slice o1 m1 d1, .slice oe1 n1 cap1], .int .i64 (na : Int), .agg #[.slice o1 m1 d1, .slice oe1 n1 cap1], .int .i64 (na : Int)] (Go.Sort.grow (redrawn V8 pr.d) pr.os) fun e w'' => e = .returned (.bool true) ∧ ∃ p : Regrown, w'' = Go.Sort.grow (redrawn V8 p.d) p.os) := Lib.hid fun pr => Calls.regrown_of (by
          have h := same_any _ _ _ _ p p (na : Int) (na : Int) _ (hp.out.below (hgr pr)) (hp.out.below (hgr pr)) hS1.out hS1.out
          rwa [show sameA p (na : Int) p (na : Int) = true by unfold sameA; rw [hin1]; exact sameL_refl (ahead_of_may hm1.out) na (by rw [hn1.out]; exact hna)] at h)
        have CD1 : Hid (∀ pr : Regrown, Calls Try.prog 12 #[.agg #[.slice o1 m1 d1, .slice oe1 n1 cap1], .int .i64 (na : Int)] (Go.Sort.grow (redrawn V8 pr.d) pr.os) fun e w'' => e = .returned (.int .i64 (dp : Int)) ∧ ∃ p : Regrown, w'' = Go.Sort.grow (redrawn V8 p.d) p.os) := Lib.hid fun pr => Calls.regrown_of (by
          have h := callsIn_wide.1 (deep_any _ _ p (na : Int) _ (hp.out.below (hgr pr)) hS1.out)
          rwa [show deepP p (na : Int) = (dp : Int) by unfold deepP; rw [if_pos hin1, HDP.out]; rfl] at h)
        have CD2 : Hid (∀ pr : Regrown, Calls Try.prog 12 #[.agg #[.slice o2 m2 d2, .slice oe2 n2 cap2], .int .i64 (nb : Int)] (Go.Sort.grow (redrawn V8 pr.d) pr.os) fun e w'' => e = .returned (.int .i64 (dq : Int)) ∧ ∃ p : Regrown, w'' = Go.Sort.grow (redrawn V8 p.d) p.os) := Lib.hid fun pr => Calls.regrown_of (by
          have h := callsIn_wide.1 (deep_any _ _ q (nb : Int) _ (hq.out.below (hgr pr)) hS2.out)
          rwa [show deepP q (nb : Int) = (dq : Int) by unfold deepP; rw [if_pos hin2, HDQ.out]; rfl] at h)
        clear hgr hin1 hin2 CS HDP HDQ
        cases ss with
        | false =>
          have GP0 := fun pr : Regrown => cell_regrown p0 pr.d pr.os
          have GP1 := fun pr : Regrown => cell_regrown p1 pr.d pr.os
          have GQ0 := fun pr : Regrown => cell_regrown q0 pr.d pr.os
          have GQ1 := fun pr : Regrown => cell_regrown q1 pr.d pr.os
          have KP := Lib.hid (⟨p0, p1, q0, q1⟩ : V8.cell? ⟨w.heap.size, 0, none⟩ = some (.slice o1 m1 d1) ∧ V8.cell? ⟨w.heap.size, 1, none⟩ = some (.slice oe1 n1 cap1) ∧ V8.cell? ⟨w.heap.size + 1, 0, none⟩ = some (.slice o2 m2 d2) ∧ V8.cell? ⟨w.heap.size + 1, 1, none⟩ = some (.slice oe2 n2 cap2))
          clear p0 p1 q0 q1
          refine wp_region_quiet_below (by kernel_rfl) (by kernel_rfl) ?_
          repeat (go_big_quiet_step (first | with_reducible exact CS1.out _ | with_reducible exact CS2.out _))
          refine wpQuiet_nil ?_
          intro w7 hw7
          have HB3 : Hid (Below V8.heap.size V8 w7) := Lib.hid (by obtain ⟨pr, rfl⟩ := hw7; exact below_regrown _ _ _)
          clear hw7 GP0 GP1 GQ0 GQ1
          go_wp2_with (fail)
          go_ret
          exact ⟨rfl, HV8.out.trans (HB3.out.mono HV8.out.size)⟩
        | true =>
          obtain rfl := hdd.out rfl
          have zd : ((dp : Int) == (dp : Int)) = true := by simp
          have GP0 := fun pr : Regrown => cell_regrown p0 pr.d pr.os
          have GP1 := fun pr : Regrown => cell_regrown p1 pr.d pr.os
          have GQ0 := fun pr : Regrown => cell_regrown q0 pr.d pr.os
          have GQ1 := fun pr : Regrown => cell_regrown q1 pr.d pr.os
          have KP := Lib.hid (⟨p0, p1, q0, q1⟩ : V8.cell? ⟨w.heap.size, 0, none⟩ = some (.slice o1 m1 d1) ∧ V8.cell? ⟨w.heap.size, 1, none⟩ = some (.slice oe1 n1 cap1) ∧ V8.cell? ⟨w.heap.size + 1, 0, none⟩ = some (.slice o2 m2 d2) ∧ V8.cell? ⟨w.heap.size + 1, 1, none⟩ = some (.slice oe2 n2 cap2))
          clear p0 p1 q0 q1
          refine wp_region_quiet_below (by kernel_rfl) (by kernel_rfl) ?_
          repeat (go_big_quiet_step (first | with_reducible exact CS1.out _ | with_reducible exact CS2.out _ | with_reducible exact CD1.out _ | with_reducible exact CD2.out _))
          refine wpQuiet_nil ?_
          intro w7 hw7
          have HB3 : Hid (Below V8.heap.size V8 w7) := Lib.hid (by obtain ⟨pr, rfl⟩ := hw7; exact below_regrown _ _ _)
          clear hw7 GP0 GP1 GQ0 GQ1
          go_wp2_with (fail)
          go_ret
          exact ⟨rfl, HV8.out.trans (HB3.out.mono HV8.out.size)⟩
theorem sameLaw_any (sd1 se1 sd2 se2 : Value) (p q : Pr) (a b : Int) (w : World) (hp : ProgAt w sd1 se1 p) (hq : ProgAt w sd2 se2 q) :
    Calls Try.prog 3 #[.agg #[sd1, se1], .int .i64 a, .agg #[sd2, se2], .int .i64 b] w fun r Y => r = .returned (.bool true) ∧ Below w.heap.size w Y := by
  have HP := Lib.hid hp
  have HQ := Lib.hid hq
  obtain ⟨⟨o1, d1, db1, do1, rfl, hd1, hd2, hd3, hd4⟩, ⟨oe1, cap1, b1, f1, rfl, he1, he2, he3, he4⟩, h3, h4⟩ := id hp
  obtain ⟨⟨o2, d2, db2, do2, rfl, kd1, kd2, kd3, kd4⟩, ⟨oe2, cap2, b2, f2, rfl, ke1, ke2, ke3, ke4⟩, k3, k4⟩ := id hq
  exact sameLaw_core p q o1 o2 oe1 oe2 _ d1 b1 f1 cap1 _ _ d2 b2 f2 cap2 _ db1 do1 db2 do2 (Lib.hid he3) (Lib.hid ke3) (Lib.hid rfl) (Lib.hid rfl) w HP HQ (Lib.hid he4) (Lib.hid ke4) (Lib.hid rfl) (Lib.hid rfl) (Lib.hid hd3) (Lib.hid kd3) (Lib.hid hd4) (Lib.hid kd4) a b
end
end Go.Proofs.Ytiilgehdkanmnaa
namespace Go.Proofs.Ytiilgehdkanmnaa.astSame
open Go.ChangeShapes Go.WideShapes Go.ChangeAt Go.RowKit
set_option linter.unusedVariables false

theorem own : ownKnob Try.prog.godebug = none := by kernel_rfl
theorem laidOut : laidOutB Try.prog = true := by kernel_rfl

set_option maxRecDepth 100000 in
theorem lifted (os : Os) (started : os.Started) (H : Type) (enc : TypeId × Value → H) :
    ReturnsInHanded {} Try.checked os 3 .any (Rows.astSameSpec.pre6 enc Try.prog Try.f3 Rows.astSameRow.domain false) (Rows.astSameSpec.post enc Try.prog Try.f3 false true false false) := by
  refine returnsInHanded_of_change_sized (C := Try.checked) own started (by kernel_rfl) Try.func3
    (ChangeSpec.witness6 (enc := enc) (C := Try.checked) false ⟨#[], #[.agg #[.slice none 0 0, .slice none 0 0], .int .i64 0, .agg #[.slice none 0 0, .slice none 0 0], .int .i64 0], []⟩ 8 (by kernel_rfl) (by kernel_rfl) (by kernel_rfl) (by kernel_rfl)) ?_
  intro W base args ds gs before hval0 hW hcnd hsz0 _
  have hval : ∀ (j : Nat) t v, Try.f3.params[j]? = some t → args[j]? = some v → Value.okWide Try.prog W .any base t v := hval0
  have hsz : (DataW.weightsEach Try.prog (Try.f3.params.toList ++ Rows.astSameSpec.plain.varTypes Try.prog) (ds ++ gs)).all (· ≤ reachBytes) = true := hsz0
  have hW' := hW
  obtain ⟨p, q, hA0, hV, rfl, hfz, hnd⟩ := hW
  have hA : DataW.TrodAll enc Try.prog W 0 (fun _ => true) true Try.f3.params.toList args.toList ds p := hA0
  rw [Try.params3] at hA hval hsz
  obtain ⟨v0, vs0, d0, ds0, p0, q0, hargs, rfl, rfl, h0, r0⟩ := trodAll_cons hA
  obtain ⟨v1, vs1, d1, ds1, p1, q1, hargs1, rfl, rfl, h1, r1⟩ := trodAll_cons r0
  obtain ⟨v2, vs2, d2, ds2, p2, q2, hargs2, rfl, rfl, h2, r2⟩ := trodAll_cons r1
  obtain ⟨v3, vs3, d3, ds3, p3, q3, hargs3, rfl, rfl, h3, r3⟩ := trodAll_cons r2
  obtain ⟨rfl, rfl, rfl⟩ := trodAll_nil r3
  subst hargs3
  subst hargs2
  subst hargs1
  obtain rfl : args = #[v0, v1, v2, v3] := by cases args; simp_all
  obtain ⟨rfl, rfl⟩ := trodVars_none hV
  have hw0 : ∀ n ∈ d0.weights Try.prog 25, n ≤ reachBytes := fun n hn => of_decide_eq_true (List.all_eq_true.1 hsz n (DataW.weights_mem_each (j := 0) (t := 25) rfl rfl n hn))
  have hw2 : ∀ n ∈ d2.weights Try.prog 25, n ≤ reachBytes := fun n hn => of_decide_eq_true (List.all_eq_true.1 hsz n (DataW.weights_mem_each (j := 2) (t := 25) rfl rfl n hn))
  obtain ⟨sd, se, P, rfl, hP⟩ := open_prog (Value.okWide_any_base (b' := 0) (hval 0 25 v0 rfl rfl)) h0 hw0
  obtain ⟨td, te, Q, rfl, hQ⟩ := open_prog (Value.okWide_any_base (b' := 0) (hval 2 25 v2 rfl rfl)) h2 hw2
  obtain ⟨a1, rfl, rfl, rfl, w1⟩ := open_int Try.underlying3 (hval 1 3 v1 rfl rfl) h1
  obtain ⟨a3, rfl, rfl, rfl, w3⟩ := open_int Try.underlying3 (hval 3 3 v3 rfl rfl) h3
  clear hA0 hval0
  simp only [List.append_nil, List.nil_append] at hW'
  have hlt : ∀ x ∈ p0 ++ p2, x.block < W.heap.size := fun x hx => hW'.lt x hx
  refine (sameLaw_any sd se td te P Q a1 a3 W hP hQ).mono fun e W' ⟨he, hg⟩ => ?_
  subst he
  have hk0 : ∀ sp : Nat → Bool, (∀ x ∈ p0 ++ p2, sp x.block = true) → DataW.Trod enc Try.prog W' 0 sp true 25 (.agg #[sd, se]) d0 p0 := fun sp hsp =>
    WideElems.Trod_stays laidOut (by kernel_rfl) (of_decide_eq_true (by kernel_rfl)) h0 (fun x hx => hg.same (hlt x (List.mem_append_left _ hx))) (fun x hx => hsp x (List.mem_append_left _ hx))
  have hk2 : ∀ sp : Nat → Bool, (∀ x ∈ p0 ++ p2, sp x.block = true) → DataW.Trod enc Try.prog W' 0 sp true 25 (.agg #[td, te]) d2 p2 := fun sp hsp =>
    WideElems.Trod_stays laidOut (by kernel_rfl) (of_decide_eq_true (by kernel_rfl)) h2 (fun x hx => hg.same (hlt x (List.mem_append_right _ hx))) (fun x hx => hsp x (List.mem_append_right _ hx))
  exact ⟨_, rfl, post_by_below (pa := p0 ++ ([] ++ (p2 ++ ([] ++ [])))) (pv := []) hW' (fun _ _ _ => (trodAll_cons_mk (shut_bool Try.underlying4 _) trodAll_mk0)) (fun sp hsp => (trodAll_cons_mk (hk0 sp hsp) (trodAll_cons_mk (shut_int Try.underlying3 w1) (trodAll_cons_mk (hk2 sp hsp) (trodAll_cons_mk (shut_int Try.underlying3 w3) trodAll_mk0))))) (fun _ _ => rfl) (by simp)
    hg (ok_one (by kernel_rfl) rfl (okWide_bool_mk Try.underlying4 _))⟩

theorem over : Rows.astSameRow.holds Try.pinned (OpenSpec.ofChange Rows.astSameSpec) :=
  OpenClaim.holds_of_wide 3 Try.f3 rfl rfl rfl rfl rfl rfl rfl ⟨rfl, rfl, rfl, rfl, rfl⟩ rfl rfl rfl rfl rfl (by kernel_rfl) Try.func3 (by kernel_rfl)
    (of_decide_eq_true (by kernel_rfl)) (by unfold Func.isWrapper; first | (rw [if_pos (by decide +kernel)]; kernel_rfl) | (rw [if_neg (by decide +kernel)]; exact ⟨rfl, rfl⟩))
    (fun os started H enc _ => lifted os started H enc)

/-- ████ THE STATEMENT ████ -/
theorem proved : Rows.AstSameSaid :=
  over
end Go.Proofs.Ytiilgehdkanmnaa.astSame
