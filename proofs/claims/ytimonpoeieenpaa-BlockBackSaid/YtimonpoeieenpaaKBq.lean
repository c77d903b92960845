/-
  A law for a loop over an iterator of the program's own: the iterator tells each round what lies in memory.
-/
import Derived.Test.YtimonpoeieenpaaKBp
import Derived.RangeFuncNested
import Derived.RangeFuncBound
import Derived.RangeFuncCalls
import Derived.RangeFuncLeaves
import Derived.Shelf.Abstract
import Derived.Shelf.RegionOpen
import Derived.OwnWalkIn
import Derived.TacticsInMore
import Derived.LoopNIn
import Derived.LoopIn
namespace Go.Proofs.Ytimonpoeieenpaa
open Go.RowKit

/-- The loop's two blocks lie as they lay. -/
def Two (h : Nat) (W W' : World) : Prop := W'.heap[h]? = W.heap[h]? ∧ W'.heap[h + 1]? = W.heap[h + 1]?
theorem Two.refl (h : Nat) (W : World) : Two h W W := ⟨rfl, rfl⟩
theorem Two.trans {h : Nat} {A B C : World} (x : Two h A B) (y : Two h B C) : Two h A C := ⟨y.1.trans x.1, y.2.trans x.2⟩
theorem Two.below {h B : Nat} {W W' : World} (k : Below B W W') (hB : h + 1 < B) : Two h W W' := ⟨k.block h (by omega), k.block (h + 1) hB⟩

/-- How a round's body must end. -/
def Goes (h : Nat) (W : World) (post : World → Prop) : Exit → Act → World → Prop
  | .normal, _, W' => Two h W W' ∧ post W'
  | _, _, _ => False
def Halts (h : Nat) (W : World) (post : World → Prop) : Exit → Act → World → Prop
  | .ret, _, W' => Two h W W' ∧ post W'
  | _, _, _ => False
/-- A round: its assignments, its body. -/
def RoundOf (h n : Nat) (P : Program) (tmps : Array Value) (ps : Array Tmp) (assign body : Code) (args : Array Value) (W : World) (R : World → Exit → Act → World → Prop) : Prop :=
  assign.wpIn (Fence.wide.inRound (h + 1)) n P (Exit.then (fun a₁ W₁ => Two h W W₁ ∧ ∀ W₂, W₁.grownBy W₂ (some (h + 1)) → (∃ o : Obj, W₁.heap[h + 1]? = some o ∧ o.isCells = false) → body.wpIn (Fence.wide.inRound (h + 1)) n P (R W₂) a₁ W₂) (fun _ _ _ => False))
    { tmps := (ps.zip args).foldl (fun t (p, v) => t.setIfInBounds p v) tmps, defers := [] } W

/-- The loop's record. -/
def recAt (fn : FuncId) (h : Nat) (tmps : Array Value) (ps : Array Tmp) (assign body : Code) (st : LoopState) (pe : Option Code) : Loop :=
  { state := st, pending := pe, fn := fn, tmps := tmps, params := ps, assign := assign, body := body, defers := h }

theorem yield_round {n : Nat} {P : Program} {fn : FuncId} {h : Nat} {tmps : Array Value} {ps : Array Tmp} {assign body : Code} {args : Array Value} {W : World} {R : World → Exit → Act → World → Prop} {R' : Ending → World → Prop}
    (hl : W.heap[h + 1]? = some (.loop (recAt fn h tmps ps assign body .ready none))) (hs : args.size = ps.size)
    (hw : RoundOf h n P tmps ps assign body args W R)
    (hR : ∀ W₂ e a W₃, R W₂ e a W₃ → W₂.heap[h + 1]? = some (.loop (recAt fn h tmps ps assign body .busy none)) → W₂.heap[h]? = W.heap[h]? → roundPost P (h + 1) R' e a W₃) :
    YieldAt Fence.wide n P (h + 1) args W R' := by
  have hy := run_yield (P := P) (args := args) hl hs
  refine ⟨fn, _, assign, body, hy, roundIn_of_wpIn trivial (wpIn_mono hw ?_)⟩
  intro e a₁ W₁ q
  cases e with
  | normal =>
    obtain ⟨t, k⟩ := q
    have hl1 := t.2.trans hl
    have hlt := (Array.getElem?_eq_some_iff.1 hl1).1
    refine ⟨_, run_beginRound hl1 rfl, wpIn_mono (k _ (grownBy_putObj' W₁ (h + 1) _) ⟨_, hl1, rfl⟩) fun e a W₃ r => hR _ e a W₃ r (World.putObj_heap_same hlt) ((World.putObj_heap_other (by omega)).trans t.1)⟩
  | ret => exact q.elim
  | exit id => exact q.elim
  | goto t => exact q.elim
  | panic ch => exact q.elim
  | outgrown => exact q.elim

/-- The two blocks that a loop lays. -/
theorem two_laid (w : World) (d l : Obj) : ((w.alloc d).alloc l).heap[w.heap.size]? = some d ∧ ((w.alloc d).alloc l).heap[w.heap.size + 1]? = some l := by
  have h := heap_alloc_new (w.alloc d) l
  rw [World.size_alloc] at h
  exact ⟨((below_new (w.alloc d) l).block _ (by rw [World.size_alloc]; omega)).trans (heap_alloc_new w d), h⟩
/-- The loop's call of the iterator. -/
theorem call_laid {P : Program} {g : Operand} {a : Act} {gf : Nat} {lb : Array Value} (hg : a.eval g = .func (.func gf) #[] lb) (l : Nat) (W : World) :
    (resolve a.eval (rangeCall g l) 0).run P W = .ok { target := .fn (.func gf) lb, args := #[.func (.yield l) #[] #[]] } W := by
  unfold resolve
  simp only [hg]
  simp [go_sem]
theorem call_enters {P : Program} {gf : Nat} {lb : Array Value} (eg : ∀ args w, (callFunc gf args).run P w = .ok (.enter gf args) w) (l : Nat) (W : World) :
    (invoke (.fn (.func gf) lb) #[.func (.yield l) #[] #[]]).run P W = .ok (.enter gf (#[.func (.yield l) #[] #[]] ++ lb)) W := by
  simp [invoke, go_sem, eg]

theorem range_told {σ : Type} {P : Program} {g : Operand} {ps : Array Tmp} {assign body : Code} {Q : Exit → Act → World → Prop} {a : Act} {w : World} {n gf : Nat} {lb : Array Value}
    (hg : a.eval g = .func (.func gf) #[] lb) (eg : ∀ args w, (callFunc gf args).run P w = .ok (.enter gf args) w)
    (I Ix : σ → World → Prop) (hI : OwnFrom w.heap.size I) (hIx : OwnFrom w.heap.size Ix)
    (On Off : σ → Array Value → σ → World → Prop) (s0 : σ) (h0 : I s0 w) (Done Left : σ → Prop)
    (hsz : ∀ s args s' W, On s args s' W ∨ Off s args s' W → args.size = ps.size)
    (hon : ∀ s args s' W, On s args s' W → I s W → RoundOf w.heap.size (n - 1 - 1) P a.tmps ps assign body args W (fun W₂ => Goes w.heap.size W₂ (I s')))
    (hoff : ∀ s args s' W, Off s args s' W → I s W → RoundOf w.heap.size (n - 1 - 1) P a.tmps ps assign body args W (fun W₂ => Halts w.heap.size W₂ (Ix s')))
    (hiter : ∀ (R R' : World → Prop), (∀ W W', R W → Below W.heap.size W W' → R W') → (∀ W W' (g : Nat) (cur : Array Value) (ty : TypeId) (mk : Nat × Nat), R W → W.heap[g]? = some (.cells cur ty mk) → W.grownBy W' (some g) → R W') → (∀ W, R W → w.heap.size + 2 ≤ W.heap.size) →
      (∀ s args s' W, On s args s' W → I s W → R W → YieldAt Fence.wide (n - 1 - 1) P (w.heap.size + 1) args W fun e W' => e = .returned (.bool true) ∧ I s' W' ∧ R W') →
      (∀ s args s' W, Off s args s' W → I s W → R W → YieldAt Fence.wide (n - 1 - 1) P (w.heap.size + 1) args W fun e W' => e = .returned (.bool false) ∧ Ix s' W' ∧ R' W') →
      ∀ W, I s0 W → R W → CallsIn Fence.wide (n - 1) P gf (#[.func (.yield (w.heap.size + 1)) #[] #[]] ++ lb) W fun e W' => (∃ v, e = .returned v) ∧ ((∃ s, Done s ∧ I s W' ∧ R W') ∨ (∃ s, Left s ∧ Ix s W' ∧ R' W')))
    (hdone : ∀ s W, Done s → I s W → W.heap[w.heap.size]? = some (.deferred (some [])) → Q .normal { a with defers := { target := .collected w.heap.size, args := #[] } :: a.defers } W)
    (hleft : ∀ s W, Left s → Ix s W → W.heap[w.heap.size]? = some (.deferred (some [])) → Code.ret.wpIn Fence.wide n P Q { a with defers := { target := .collected w.heap.size, args := #[] } :: a.defers } W) :
    (Code.rangeFunc g ps assign body).wpIn Fence.wide n P Q a w := by
  refine wpIn_rangeFunc fun fn _ => ?_
  obtain ⟨L, hL⟩ : ∃ L, recAt fn w.heap.size a.tmps ps assign body = L := ⟨_, rfl⟩
  obtain ⟨f2, f1⟩ := two_laid w (.deferred (some [])) (.loop (L .ready none))
  have fI : I s0 ((w.alloc (.deferred (some []))).alloc (.loop (L .ready none))) := hI.alloc _ (hI.alloc _ h0)
  generalize hW : (w.alloc (.deferred (some []))).alloc (.loop (L .ready none)) = W1 at f1 f2 fI
  have fE : (Instr.enterLoop fn a.tmps ps assign body none).run P w = .ok (w.heap.size + 1, [⟨.collected w.heap.size, #[]⟩]) W1 := by
    rw [← hW, ← hL]
    exact run_enterLoop_outer _ _ _ _ _
  refine ⟨_, _, _, _, _, _, _, _, fE, call_laid hg _ W1, fun _ _ => trivial, call_enters eg _ W1, fun h => by simp [Fence.wide] at h, ?_⟩
  · have ended : ∀ (jump : Option Code) (W3 : World), W3.heap[w.heap.size + 1]? = some (.loop (L .busy none)) → (Instr.endRound (w.heap.size + 1) jump).run P W3 = .ok (.bool jump.isNone) (W3.putObj (w.heap.size + 1) (.loop (L (if jump.isNone then .ready else .done) jump))) := fun jump W3 k => by
      have := run_endRound (P := P) jump k
      rw [← hL] at this ⊢
      exact this
    have size2 : ∀ {W : World} {o : Obj}, W.heap[w.heap.size + 1]? = some o → w.heap.size + 2 ≤ W.heap.size := fun k => by
      have := (Array.getElem?_eq_some_iff.1 k).1
      omega
    refine (hiter (fun W => W.heap[w.heap.size + 1]? = some (.loop (L .ready none)) ∧ W.heap[w.heap.size]? = some (.deferred (some [])))
      (fun W => W.heap[w.heap.size + 1]? = some (.loop (L .done (some .ret))) ∧ W.heap[w.heap.size]? = some (.deferred (some [])))
      (fun W W' r b => ⟨(b.block _ (by have := size2 r.1; omega)).trans r.1, (b.block _ (by have := size2 r.1; omega)).trans r.2⟩)
      (fun W W' g cur ty mk r hc hg => ⟨(hg.block _ (by have := size2 r.1; omega) (fun e => by injection e with e; rw [← e, r.1] at hc; injection hc with hc; cases hc)).trans r.1, (hg.block _ (by have := size2 r.1; omega) (fun e => by injection e with e; rw [← e, r.2] at hc; injection hc with hc; cases hc)).trans r.2⟩) (fun W r => size2 r.1) ?_ ?_ W1 fI ⟨f1, f2⟩).mono ?_
    · intro s args s' W ho hi r
      have hl := r.1
      rw [← hL] at hl
      refine yield_round hl (hsz s args s' W (.inl ho)) (hon s args s' W ho hi) fun W₂ e x W₃ q k1 k2 => ?_
      cases e with
      | normal =>
        obtain ⟨t, hi3⟩ := q
        have k3 := t.2.trans k1
        rw [hL] at k3
        refine ⟨_, _, ended none W₃ k3, rfl, hI.putObj _ hi3 (by omega) k3 rfl, World.putObj_heap_same (Array.getElem?_eq_some_iff.1 k3).1, ?_⟩
        rw [World.putObj_heap_other (by omega), t.1, k2, r.2]
      | ret => exact q.elim
      | exit id => exact q.elim
      | goto t => exact q.elim
      | panic ch => exact q.elim
      | outgrown => exact q.elim
    · intro s args s' W ho hi r
      have hl := r.1
      rw [← hL] at hl
      refine yield_round hl (hsz s args s' W (.inr ho)) (hoff s args s' W ho hi) fun W₂ e x W₃ q k1 k2 => ?_
      cases e with
      | ret =>
        obtain ⟨t, hi3⟩ := q
        have k3 := t.2.trans k1
        rw [hL] at k3
        refine ⟨_, _, ended (some .ret) W₃ k3, rfl, hIx.putObj _ hi3 (by omega) k3 rfl, World.putObj_heap_same (Array.getElem?_eq_some_iff.1 k3).1, ?_⟩
        rw [World.putObj_heap_other (by omega), t.1, k2, r.2]
      | normal => exact q.elim
      | exit id => exact q.elim
      | goto t => exact q.elim
      | panic ch => exact q.elim
      | outgrown => exact q.elim
    · rintro e W2 ⟨⟨v, rfl⟩, (⟨s, hd, hi, k1, k2⟩ | ⟨s, hd, hi, k1, k2⟩)⟩
      · have h := run_endLoop (P := P) k1 (by rw [← hL]; simp [recAt])
        have e : (L .ready none).pending = none := by rw [← hL]; rfl
        rw [e] at h
        exact ⟨none, _, h, hdone s _ hd (hI.putObj _ hi (by omega) k1 rfl) ((World.putObj_heap_other (by omega)).trans k2)⟩
      · have h := run_endLoop (P := P) k1 (by rw [← hL]; simp [recAt])
        have e : (L .done (some .ret)).pending = some .ret := by rw [← hL]; rfl
        rw [e] at h
        exact ⟨some .ret, _, h, hleft s _ hd (hIx.putObj _ hi (by omega) k1 rfl) ((World.putObj_heap_other (by omega)).trans k2)⟩

end Go.Proofs.Ytimonpoeieenpaa
