/-
  Bytes that come in, as the walks want them.
-/
import Derived.Test.YtimonpoeieenpaaKWa
import Derived.OpenShut
namespace Go.Proofs.Ytimonpoeieenpaa
open Go.RowKit

theorem in_nil (w : World) : In w none [] 0 0 := ⟨rfl, Nat.le_refl _, by decide, .inl rfl, Byt.nil⟩
theorem in_row (w : World) (x : Addr) (l c : Nat) (zs : List Int) (hl : l ≤ c) (hm : c ≤ maxLen) (hz : zs.length = c) (hcell : ∀ i, i < zs.length → w.cell? (x.add i) = some (.int .u8 (zs.getD i 0))) (hwz : ∀ n ∈ zs, (Lit.int .u8 n).wf = true) : In w (some x) (zs.take l) l c := by
  refine ⟨by simp; omega, hl, by unfold maxLen at hm; omega, .inr ⟨x, rfl, fun j y hy => ?_⟩, fun y hy => ?_⟩
  · rw [List.getElem?_take] at hy
    split at hy
    · have hj := (List.getElem?_eq_some_iff.1 hy).1
      rw [hcell j hj, List.getD_eq_getElem?_getD, hy]
      rfl
    · cases hy
  · have := hwz y (List.mem_of_mem_take hy)
    simp [Lit.wf, IntKind.min, IntKind.max, IntKind.signed, IntKind.bits] at this
    omega

end Go.Proofs.Ytimonpoeieenpaa
