/-
  A law for a loop over an iterator that yields nothing; the numbers backward, where there are none.
-/
import Derived.Test.YtjppklgegpmfpaaGreatDoorWgI
import Derived.RangeFuncNested
import Derived.RangeFuncBound
import Derived.RangeFuncCalls
import Derived.RangeFuncLeaves
import Derived.Shelf.Abstract
import Derived.Shelf.RegionOpen
import Derived.OwnWalkIn
import Derived.TacticsInMore
import Derived.LoopNIn
import Derived.LoopIn
namespace Go.Proofs.YtjppklgegpmfpaaGreatDoor
open Go.RowKit

theorem call_laid {P : Program} {g : Operand} {a : Act} {gf : Nat} {lb : Array Value} (hg : a.eval g = .func (.func gf) #[] lb) (l : Nat) (W : World) :
    (resolve a.eval (rangeCall g l) 0).run P W = .ok { target := .fn (.func gf) lb, args := #[.func (.yield l) #[] #[]] } W := by
  unfold resolve
  simp only [hg]
  simp [go_sem]
theorem call_enters {P : Program} {gf : Nat} {lb : Array Value} (eg : ∀ args w, (callFunc gf args).run P w = .ok (.enter gf args) w) (l : Nat) (W : World) :
    (invoke (.fn (.func gf) lb) #[.func (.yield l) #[] #[]]).run P W = .ok (.enter gf (#[.func (.yield l) #[] #[]] ++ lb)) W := by
  simp [invoke, go_sem, eg]
/-- The two blocks that a loop lays. -/
theorem two_laid (w : World) (d l : Obj) : ((w.alloc d).alloc l).heap[w.heap.size]? = some d ∧ ((w.alloc d).alloc l).heap[w.heap.size + 1]? = some l := by
  have h := heap_alloc_new (w.alloc d) l
  rw [World.size_alloc] at h
  exact ⟨((below_new (w.alloc d) l).block _ (by rw [World.size_alloc]; omega)).trans (heap_alloc_new w d), h⟩
theorem range_none {P : Program} {g : Operand} {ps : Array Tmp} {assign body : Code} {Q : Exit → Act → World → Prop} {a : Act} {w : World} {gf : Nat} {lb : Array Value}
    (hg : a.eval g = .func (.func gf) #[] lb) (eg : ∀ args w, (callFunc gf args).run P w = .ok (.enter gf args) w)
    (hc : ∀ W, Below w.heap.size w W → Calls P gf (#[.func (.yield (w.heap.size + 1)) #[] #[]] ++ lb) W fun e W' => (∃ v, e = .returned v) ∧ W' = W)
    (hdone : ∀ W, Below w.heap.size w W → W.heap[w.heap.size]? = some (.deferred (some [])) → Q .normal { a with defers := { target := .collected w.heap.size, args := #[] } :: a.defers } W) :
    (Code.rangeFunc g ps assign body).wp P Q a w := by
  refine (wpIn_wide (n := 5)).1 ?_
  refine wpIn_rangeFunc fun fn _ => ?_
  obtain ⟨L, hL⟩ : ∃ L : Loop, ({ state := .ready, pending := none, fn := fn, tmps := a.tmps, params := ps, assign := assign, body := body, defers := w.heap.size } : Loop) = L := ⟨_, rfl⟩
  obtain ⟨f2, f1⟩ := two_laid w (.deferred (some [])) (.loop L)
  have fB : Below w.heap.size w ((w.alloc (.deferred (some []))).alloc (.loop L)) := (below_new w _).alloc (by simp) _
  generalize hW : (w.alloc (.deferred (some []))).alloc (.loop L) = W1 at f1 f2 fB
  have fE : (Instr.enterLoop fn a.tmps ps assign body none).run P w = .ok (w.heap.size + 1, [⟨.collected w.heap.size, #[]⟩]) W1 := by
    rw [← hW, ← hL]
    exact run_enterLoop_outer _ _ _ _ _
  refine ⟨_, _, _, _, _, _, _, _, fE, call_laid hg _ W1, fun _ _ => trivial, call_enters eg _ W1, fun h => by simp [Fence.wide] at h, ?_⟩
  refine (callsIn_wide.2 (hc W1 fB)).mono ?_
  rintro e W2 ⟨⟨v, rfl⟩, rfl⟩
  have h := run_endLoop (P := P) f1 (by rw [← hL]; simp)
  have e : L.pending = none := by rw [← hL]
  rw [e] at h
  refine ⟨none, _, h, hdone _ ?_ ((World.putObj_heap_other (by omega)).trans f2)⟩
  exact fB.trans ⟨rfl, rfl, rfl, by simp [World.putObj], fun k hk => World.putObj_heap_other (by omega)⟩

theorem backward_any (A : Option Addr) (n c : Nat) (w : World) :
    Calls Tryz.prog 54 #[.slice A n c] w fun e w' => e = .returned (.func (.func 73) #[] #[.pointer (some ⟨w.heap.size, 0, none⟩)]) ∧ w' = w.alloc (.cells #[.slice A n c] 23) := by
  go_enter Tryz.func54, Tryz.ntmps54
  go_wp2
  go_ret
  exact ⟨rfl, rfl⟩
theorem backward_none (y : Value) (b c : Nat) (A : Option Addr) (w : World) (h : w.cell? ⟨b, 0, none⟩ = some (.slice A 0 c)) :
    Calls Tryz.prog 73 #[y, .pointer (some ⟨b, 0, none⟩)] w fun e w' => (∃ v, e = .returned v) ∧ w' = w := by
  go_enter Tryz.func73, Tryz.ntmps73
  go_wp2
  go_loop [3] (fun t3 => t3 = .int .i64 (-1)) (fun _ => 0)
  case atStart => rfl
  case round =>
    obtain rfl := hrel
    go_wp2_with fail
    first
      | (go_end0; exact ⟨⟨_, rfl⟩, rfl⟩)
      | (refine bodyPost_ret (v := .tuple #[]) ?_ rfl ⟨⟨_, rfl⟩, rfl⟩; unfold results; go_simp)

end Go.Proofs.YtjppklgegpmfpaaGreatDoor
