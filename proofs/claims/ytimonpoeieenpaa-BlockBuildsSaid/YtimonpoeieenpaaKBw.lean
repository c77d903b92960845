/-
  Walks: a key looked for, by the program.
-/
import Derived.Test.YtimonpoeieenpaaKBv
import Derived.Test.YtimonpoeieenpaaKBr
namespace Go.Proofs.Ytimonpoeieenpaa
open Go.RowKit Go.Shelf
attribute [local go_sem] Oper.semAt_some

/-- What of the value has been found. -/
def foundV (K : List Int) (ps : List Pr) : List Int := match seekP K ps with
  | some p => p.2
  | none => []
def foundB (K : List Int) (ps : List Pr) : Bool := (seekP K ps).isSome
/-- Between two rounds of looking. -/
structure StF (H : Nat) (w : World) (A : Option Addr) (n c : Nat) (C : Option Addr) (m d : Nat) (K : List Int) (s : Ks) (W : World) : Prop where
  low : Below H w W
  kb : Boxed W H 24 (.slice C m d)
  r0 : Boxed W (H + 1) 24 (.slice none 0 0)
  r1 : Boxed W (H + 2) 4 (.bool false)
  r2 : Boxed W (H + 3) 25 (.int .i64 0)
  val : ∃ vA z vc, Boxed W (H + 4) 24 (.slice vA z vc) ∧ In w vA (foundV K s.ps) z vc
  got : Boxed W (H + 5) 4 (.bool (foundB K s.ps))
  box : Boxed W (H + 6) 24 (.slice A n c)
  key : Row W (H + 9) s.ka s.kc s.k
/-- A round has left. -/
structure XF (H : Nat) (w : World) (s : Ks) (W : World) : Prop where
  low : Below H w W
  r0 : Boxed W (H + 1) 24 (.slice none 0 0)
  r1 : Boxed W (H + 2) 4 (.bool false)
  r2 : Boxed W (H + 3) 25 (.int .i64 s.e)
theorem StF.abide {H : Nat} {w W W' : World} {A C : Option Addr} {n c m d : Nat} {K : List Int} {s : Ks} {row : Option Nat} (h : StF H w A n c C m d K s W) (hg : W.grownBy W' row) (hw : w.heap.size = H) (hr : ∀ r, row = some r → H + 7 ≤ r ∧ ∃ o : Obj, W.heap[r]? = some o ∧ o.isCells = false) : StF H w A n c C m d K s W' := by
  have hb : ∀ {b : Nat} {t : TypeId} {v : Value}, Boxed W b t v → b < H + 7 → Boxed W' b t v := fun k hlt => boxed_abide k hg hlt (fun r e => (hr r e).1)
  obtain ⟨vA, z, vc, v1, v2⟩ := h.val
  exact ⟨h.low.grown hg (by have := h.low.size; omega) (fun k e => by have := (hr k e).1; omega), hb h.kb (by omega), hb h.r0 (by omega), hb h.r1 (by omega), hb h.r2 (by omega), ⟨vA, z, vc, hb v1 (by omega), v2⟩, hb h.got (by omega), hb h.box (by omega), own_abide h.key hg (fun r e => (hr r e).2)⟩
theorem XF.abide {H : Nat} {w W W' : World} {s : Ks} {row : Option Nat} (h : XF H w s W) (hg : W.grownBy W' row) (hw : w.heap.size = H) (hr : ∀ r, row = some r → H + 7 ≤ r ∧ ∃ o : Obj, W.heap[r]? = some o ∧ o.isCells = false) : XF H w s W' := by
  have hb : ∀ {b : Nat} {t : TypeId} {v : Value}, Boxed W b t v → b < H + 7 → Boxed W' b t v := fun k hlt => boxed_abide k hg hlt (fun r e => (hr r e).1)
  exact ⟨h.low.grown hg (by have := h.low.size; omega) (fun k e => by have := (hr k e).1; omega), hb h.r0 (by omega), hb h.r1 (by omega), hb h.r2 (by omega)⟩
theorem hostF {H : Nat} {w : World} {A C : Option Addr} {L K : List Int} {n c m d : Nat} (h : In w A L n c) (hw : w.heap.size = H) : Host (H + 9) (H + 6) A L n c (StF H w A n c C m d K) where
  box := fun s W hs => hs.box.cell
  in_ := fun s W hs => h.kept (by rw [hw]; exact hs.low)
  key := fun s W hs => hs.key
  bel := fun s W W' hs hb => hs.abide (below_grown hb) hw (fun r e => by cases e)
  turn := fun s W W' A' c' K' hs hr hb hg hp => by
    have kb : ∀ {b : Nat} {t : TypeId} {v : Value}, Boxed W b t v → b < H + 9 → Boxed W' b t v := fun k hlt => boxed_below k hb hlt
    obtain ⟨vA, z, vc, v1, v2⟩ := hs.val
    exact ⟨hs.low.trans (hb.mono (by omega)), kb hs.kb (by omega), kb hs.r0 (by omega), kb hs.r1 (by omega), kb hs.r2 (by omega), ⟨vA, z, vc, kb v1 (by omega), v2⟩, kb hs.got (by omega), kb hs.box (by omega), hr⟩
theorem StF.miss {H : Nat} {w W : World} {A C : Option Addr} {n c m d : Nat} {K k V : List Int} {ps : List Pr} {e0 : Int} {ka : Option Addr} {kc : Nat} (h : StF H w A n c C m d K ⟨ps, e0, ka, kc, k⟩ W) (hk : k ≠ K) : StF H w A n c C m d K ⟨ps ++ [(k, V)], 0, ka, kc, k⟩ W := by
  have e : seekP K (ps ++ [(k, V)]) = seekP K ps := seekP_old hk
  have e1 : foundV K (ps ++ [(k, V)]) = foundV K ps := by unfold foundV; rw [e]
  have e2 : foundB K (ps ++ [(k, V)]) = foundB K ps := by unfold foundB; rw [e]
  exact ⟨h.low, h.kb, h.r0, h.r1, h.r2, by simp only [e1]; exact h.val, by simp only [e2]; exact h.got, h.box, h.key⟩
theorem StF.hit {H z vc : Nat} {w W : World} {A C vA : Option Addr} {n c m d : Nat} {K k V : List Int} {ps : List Pr} {e0 : Int} {ka : Option Addr} {kc : Nat} (h : StF H w A n c C m d K ⟨ps, e0, ka, kc, k⟩ W) (hr : risesP [] ps) (hc : cmpL k (lastK [] ps) = 1) (hk : k = K) (hV : In w vA V z vc) :
    Two (H + 7) W ((W.setCell ⟨H + 1 + 1 + 1 + 1, 0, none⟩ (.slice vA z vc)).setCell ⟨H + 1 + 1 + 1 + 1 + 1, 0, none⟩ (.bool true)) ∧ StF H w A n c C m d K ⟨ps ++ [(k, V)], 0, ka, kc, k⟩ ((W.setCell ⟨H + 1 + 1 + 1 + 1, 0, none⟩ (.slice vA z vc)).setCell ⟨H + 1 + 1 + 1 + 1 + 1, 0, none⟩ (.bool true)) := by
  have e : seekP K (ps ++ [(k, V)]) = some (k, V) := seekP_new hr hc hk
  have e1 : foundV K (ps ++ [(k, V)]) = V := by unfold foundV; rw [e]
  have e2 : foundB K (ps ++ [(k, V)]) = true := by unfold foundB; rw [e]; rfl
  have hs : ∀ b, b ≠ H + 4 → b ≠ H + 5 → ((W.setCell ⟨H + 1 + 1 + 1 + 1, 0, none⟩ (.slice vA z vc)).setCell ⟨H + 1 + 1 + 1 + 1 + 1, 0, none⟩ (.bool true)).heap[b]? = W.heap[b]? := fun b h4 h5 => by
    rw [Below.heap_setCell _ ⟨H + 1 + 1 + 1 + 1 + 1, 0, none⟩ _ b (by simp only; omega), Below.heap_setCell _ ⟨H + 1 + 1 + 1 + 1, 0, none⟩ _ b (by simp only; omega)]
  obtain ⟨vA', z', vc', v1, v2⟩ := h.val
  refine ⟨⟨hs _ (by omega) (by omega), hs _ (by omega) (by omega)⟩, ?_, (hs _ (by omega) (by omega)).trans h.kb, (hs _ (by omega) (by omega)).trans h.r0, (hs _ (by omega) (by omega)).trans h.r1, (hs _ (by omega) (by omega)).trans h.r2, ⟨vA, z, vc, (v1.set _).other (by omega) _, by simp only [e1]; exact hV⟩, by simp only [e2]; exact (h.got.other (by omega) _).set _, (hs _ (by omega) (by omega)).trans h.box, own_set (own_set h.key (by omega)) (by omega)⟩
  exact (h.low.setCell (p := ⟨H + 1 + 1 + 1 + 1, 0, none⟩) (by simp only; omega) _).setCell (p := ⟨H + 1 + 1 + 1 + 1 + 1, 0, none⟩) (by simp only; omega) _
theorem StF.left {H : Nat} {w W : World} {A C : Option Addr} {n c m d : Nat} {K : List Int} {s : Ks} (h : StF H w A n c C m d K s W) (er : Int) :
    Two (H + 7) W (((W.setCell ⟨H + 1, 0, none⟩ (.slice none 0 0)).setCell ⟨H + 1 + 1, 0, none⟩ (.bool false)).setCell ⟨H + 1 + 1 + 1, 0, none⟩ (.int .i64 er)) ∧ XF H w ⟨s.ps, er, s.ka, s.kc, s.k⟩ (((W.setCell ⟨H + 1, 0, none⟩ (.slice none 0 0)).setCell ⟨H + 1 + 1, 0, none⟩ (.bool false)).setCell ⟨H + 1 + 1 + 1, 0, none⟩ (.int .i64 er)) := by
  have hs : ∀ b, b ≠ H + 1 → b ≠ H + 2 → b ≠ H + 3 → (((W.setCell ⟨H + 1, 0, none⟩ (.slice none 0 0)).setCell ⟨H + 1 + 1, 0, none⟩ (.bool false)).setCell ⟨H + 1 + 1 + 1, 0, none⟩ (.int .i64 er)).heap[b]? = W.heap[b]? := fun b h3 h4 h5 => by
    rw [Below.heap_setCell _ ⟨H + 1 + 1 + 1, 0, none⟩ _ b (by simp only; omega), Below.heap_setCell _ ⟨H + 1 + 1, 0, none⟩ _ b (by simp only; omega), Below.heap_setCell _ ⟨H + 1, 0, none⟩ _ b (by simp only; omega)]
  refine ⟨⟨hs _ (by omega) (by omega) (by omega), hs _ (by omega) (by omega) (by omega)⟩, ?_, ((h.r0.set _).other (by omega) _).other (by omega) _, ((h.r1.other (by omega) _).set _).other (by omega) _, ((h.r2.other (by omega) _).other (by omega) _).set _⟩
  exact ((h.low.setCell (p := ⟨H + 1, 0, none⟩) (by simp only; omega) _).setCell (p := ⟨H + 1 + 1, 0, none⟩) (by simp only; omega) _).setCell (p := ⟨H + 1 + 1 + 1, 0, none⟩) (by simp only; omega) _

end Go.Proofs.Ytimonpoeieenpaa
