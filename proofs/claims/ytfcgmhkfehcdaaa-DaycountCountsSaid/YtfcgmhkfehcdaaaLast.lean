/-
  The last step of a row where the call left the earlier blocks as they were and may have made blocks of its own, frozen or not.
-/
import Derived.Below
import Derived.ChangeSame
import Derived.Test.YtfcgmhkfehcdaaaRows
namespace Go.Proofs.Ytfcgmhkfehcdaaa
open Go.RowKit Go.WideShapes Go.ChangeShapes

/-- The reading of the arguments before the call had its places unfrozen: so has it after. -/
theorem thawed_after {W W' : World} {ps qs : List MemPlace} (hb : Below W.heap.size W W') (hlt : ∀ p ∈ ps, p.block < W.heap.size)
    (h : W.noneFrozen ps) (hq : ∀ p ∈ qs, p ∈ ps) : W'.noneFrozen qs := fun b off hp => by
  rw [hb.frozen (p := ⟨b, off, none⟩) (hlt _ (hq _ hp))]
  exact h b off (hq _ hp)

theorem answered {H : Type} {enc : TypeId × Value → H} {P : Program} {f : Func} {s : ChangeSpec} {apart fresh handsOn again : Bool} {W W' : World} {args : Array Value} {v : Value}
    {ds gs : List (DataW H)} {pa pv : List MemPlace} (hb : Below W.heap.size W W')
    (hW : DataW.Whole enc P f.params.toList s.vars apart W args.toList ds gs (pa ++ pv))
    (ha : ∀ sp : Nat → Bool, (∀ p ∈ pa ++ pv, sp p.block = true) → DataW.TrodAll enc P W' 0 sp true f.params.toList args.toList (s.fn H (ds ++ gs)).args pa)
    (hv : ∀ sp : Nat → Bool, (∀ p ∈ pa ++ pv, sp p.block = true) → DataW.TrodVars enc P W' sp s.vars (s.fn H (ds ++ gs)).vars pv)
    (hr : ∀ (b : Nat) (sp : Nat → Bool) (hd : Bool), DataW.TrodAll enc P W' b sp hd f.resultTypes.toList (v.resultList f.resultTypes.size) (s.fn H (ds ++ gs)).results [])
    (ho : ∀ (j : Nat) (t : TypeId) (r : Value), f.resultTypes[j]? = some t → (v.resultList f.resultTypes.size)[j]? = some r → Value.okWide P W' .any 0 t r) :
    s.post enc P f apart fresh handsOn again W args v W' := by
  have hlt := hW.lt
  have hsp : ∀ p ∈ pa ++ pv, decide (p.block < W.heap.size) = true := fun p hp => decide_eq_true (hlt p hp)
  have hW' := hW
  obtain ⟨-, -, -, -, -, hz, hn⟩ := hW'
  have hall : DataW.TrodAll enc P W' 0 (fun _ => true) true (f.resultTypes.toList ++ f.params.toList) (v.resultList f.resultTypes.size ++ args.toList) ((s.fn H (ds ++ gs)).results ++ (s.fn H (ds ++ gs)).args) pa := by
    simpa using trodAll_append (ha _ fun _ _ => rfl) (hr _ _ _)
  have hfin : DataW.Whole enc P (f.resultTypes.toList ++ f.params.toList) s.vars apart W' (v.resultList f.resultTypes.size ++ args.toList) ((s.fn H (ds ++ gs)).results ++ (s.fn H (ds ++ gs)).args) (s.fn H (ds ++ gs)).vars (pa ++ pv) :=
    ⟨pa, pv, hall, hv _ fun _ _ => rfl, rfl, thawed_after hb hlt hz fun _ h => h, hn⟩
  have hkeep := hb.frame (· ∈ pa ++ pv)
  refine ⟨ds, gs, pa ++ pv, [], pa, pv, hW, hr _ _ _, ha _ hsp, hv _ hsp, World.keptBut_mono (fun p hp => ⟨hp, Or.inr (List.mem_append.mp hp)⟩) hkeep, fun _ => ⟨ho, _, _, _, hfin, fun _ h _ => h⟩⟩

end Go.Proofs.Ytfcgmhkfehcdaaa
