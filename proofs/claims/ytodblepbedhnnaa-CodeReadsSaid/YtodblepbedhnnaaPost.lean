/- The row's last step where of the world behind the call no more is known than that what was there is as it was. -/
import Derived.Below
import Derived.ChangeSame
namespace Go.Proofs.Ytodblepbedhnnaa
open Go.RowKit Go.WideShapes Go.ChangeShapes
section
variable {H : Type} {enc : TypeId × Value → H} {P : Program}
theorem post_by_below {f : Func} {s : ChangeSpec} {apart fresh handsOn again : Bool} {W W' : World} {args : Array Value} {v : Value} {ds gs : List (DataW H)} {before pa pv : List MemPlace}
    (hW : DataW.Whole enc P f.params.toList s.vars apart W args.toList ds gs before)
    (hres : ∀ (b : Nat) (sp : Nat → Bool) (hd : Bool), DataW.TrodAll enc P W' b sp hd f.resultTypes.toList (v.resultList f.resultTypes.size) (s.fn H (ds ++ gs)).results [])
    (hargs : ∀ sp : Nat → Bool, (∀ p ∈ before, sp p.block = true) → DataW.TrodAll enc P W' 0 sp true f.params.toList args.toList (s.fn H (ds ++ gs)).args pa)
    (hvars : ∀ sp : Nat → Bool, (∀ p ∈ before, sp p.block = true) → DataW.TrodVars enc P W' sp s.vars (s.fn H (ds ++ gs)).vars pv)
    (hps : before = pa ++ pv) (hb : Below W.heap.size W W')
    (hok : ∀ (j : Nat) (t : TypeId) (r : Value), f.resultTypes[j]? = some t → (v.resultList f.resultTypes.size)[j]? = some r → Value.okWide P W' .any 0 t r) :
    s.post enc P f apart fresh handsOn again W args v W' := by
  have blocks : ∀ p ∈ before, p.block < W.heap.size := fun p hp => hW.lt p hp
  have old : ∀ p ∈ before, (fun b => decide (b < W.heap.size)) p.block = true := fun p hp => decide_eq_true (blocks p hp)
  have both : ∀ p, p ∈ before → p ∈ pa ∨ p ∈ pv := fun p hp => by rw [hps] at hp; exact List.mem_append.1 hp
  have frame : W.keptBut W' (fun p => p ∈ before ∧ (p ∈ ([] : List MemPlace) ∨ p ∈ pa ∨ p ∈ pv)) :=
    World.keptBut_mono (fun p hp => ⟨hp, .inr (both p hp)⟩) (hb.frame (· ∈ before))
  have whole : DataW.Whole enc P f.params.toList s.vars apart W args.toList ds gs before := hW
  obtain ⟨_, _, _, _, _, cold, once⟩ := hW
  have cold' : ∀ b off, MemPlace.cell b off ∈ before → W'.frozen? ⟨b, off, none⟩ = false := fun b off hp => by
    rw [hb.frozen (p := ⟨b, off, none⟩) (blocks _ hp)]
    exact cold b off hp
  have behind : DataW.Whole enc P (f.resultTypes.toList ++ f.params.toList) s.vars apart W' (v.resultList f.resultTypes.size ++ args.toList)
      ((s.fn H (ds ++ gs)).results ++ (s.fn H (ds ++ gs)).args) (s.fn H (ds ++ gs)).vars (pa ++ pv) := by
    have h := trodAll_append (hargs (fun _ => true) fun _ _ => rfl) (hres 0 (fun _ => true) true)
    exact ⟨pa, pv, h, hvars _ fun _ _ => rfl, rfl, fun b off hp => cold' b off (by rw [hps]; exact hp), fun ha => by rw [← hps]; exact once ha⟩
  exact ⟨ds, gs, before, [], pa, pv, whole, hres _ _ _, hargs _ old, hvars _ old, frame, fun _ => ⟨hok, _, _, _, behind, fun p hp _ => by rw [hps]; exact hp⟩⟩
end
end Go.Proofs.Ytodblepbedhnnaa
