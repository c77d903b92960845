/-
  Memory: a slice of slices of the call's own grows.
-/
import Derived.Test.YtjppklgegpmfpaaGreatDoorMemS
namespace Go.Proofs.YtjppklgegpmfpaaGreatDoor
open Go.RowKit

theorem wpList_append_srow (w : World) {ops : Array Oper} {rest : List Oper} {o : Oper} {a : Act} {Q : Exit → Act → World → Prop} (hgd : o.guard = none) (s x : Operand)
    (ho : o.op = .call { callee := .builtin .append, args := #[s, x], argTypes := #[22, 22] })
    (B : Nat) (A : Option Addr) (c : Nat) (T U : List Sl) (C : Option Addr) (n m cm : Nat) (hs : a.eval s = .slice A n c) (hx : a.eval x = .slice C m cm) (en : T.length = n) (em : U.length = m) (h : Srow w B A c T) (hm : Lies w C (svals U)) (hB : B ≤ w.heap.size) (hr : (T.length + U.length) * 24 ≤ 140737488355328)
    (k : ∀ A' c' w', Srow w' B A' c' (T ++ U) → Below B w w' → w.grownBy w' (Value.slice A n c).ownBlock → wpList Tryz.prog ops Q rest (a.put o.dst (.slice A' (n + m) c')) w') : wpList Tryz.prog ops Q (o :: rest) a w := by
  subst en
  subst em
  obtain ⟨i, hi, hz0, hz1, hz2⟩ := info_parts info35
  refine wpList_plain hgd fun K hK => ?_
  obtain ⟨A', c', w', r, h2, h3, h4⟩ := run_append_grown w 22 o.type 35 i (.slice none 0 0) 1 24 Tryz.underlying22 hi hz0 hz1 hz2 rfl (by decide) B A T.length c (svals T) h C U.length cm (svals U) (by simp [svals_len]) hm svals_one (by unfold maxLen; omega) hr hB
  rw [← svals_append] at h2
  have k' := k A' c' w' (by unfold Srow; rw [List.length_append]; exact h2) h3 h4
  unfold Oper.wp execOp
  simp only [ho, resolve, invoke, builtin, Sem.run_bind, Sem.run_pure, Result.andThen_ok, List.map_toArray, List.map_cons, List.map_nil, hs, hx, r]
  exact hK _ _ k'

theorem rows_grown {w w' : World} {B D m : Nat} {C : Option Addr} {d : Nat} {T U : List Sl} {s : Sl} {o : Obj} (hs : Srow w D C d U) (hU : U.length = m) (hT : ∀ x ∈ T, Row w B x.a x.c x.l) (h1 : Row w B s.a s.c s.l) (hg : (w.alloc o).grownBy w' (Value.slice C m d).ownBlock) : ∀ x ∈ T ++ [s], Row w' B x.a x.c x.l := fun x hx => by
  subst hU
  rcases List.mem_append.1 hx with hx | hx
  · exact ((hT x hx).alloc o).beside (hs.alloc o) hg
  · obtain rfl := List.mem_singleton.1 hx
    exact (h1.alloc o).beside (hs.alloc o) hg


end Go.Proofs.YtjppklgegpmfpaaGreatDoor
