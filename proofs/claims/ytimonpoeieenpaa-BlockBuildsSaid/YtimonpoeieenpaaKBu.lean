/-
  Walks: pairs unpacked, by the program.
-/
import Derived.Test.YtimonpoeieenpaaKBt
namespace Go.Proofs.Ytimonpoeieenpaa
open Go.RowKit Go.Shelf
attribute [local go_sem] Oper.semAt_some

theorem own_abide {W W' : World} {B size n : Nat} {e : TypeId} {v : Value} {xs : List Value} {row : Option Nat} (h : W.ownsRow B e size v n xs) (hg : W.grownBy W' row) (hr : ∀ r, row = some r → ∃ o : Obj, W.heap[r]? = some o ∧ o.isCells = false) : W'.ownsRow B e size v n xs := by
  refine h.kept hg ?_
  rcases h.2 with ⟨rfl, _⟩ | ⟨g, cap, cur, rfl, _, hgb, _⟩
  · exact .inl rfl
  · refine .inr fun e => ?_
    obtain ⟨o, ho, hc⟩ := hr g (by simpa [Value.ownBlock] using e.symm)
    rw [hgb] at ho
    cases ho
    cases hc
theorem boxed_abide {W W' : World} {B b : Nat} {t : TypeId} {v : Value} {row : Option Nat} (h : Boxed W b t v) (hg : W.grownBy W' row) (hb : b < B) (hr : ∀ r, row = some r → B ≤ r) : Boxed W' b t v :=
  h.kept hg (fun e => by have := hr b e.symm; omega)
theorem boxed_below {W W' : World} {B b : Nat} {t : TypeId} {v : Value} (h : Boxed W b t v) (hb : Below B W W') (hB : b < B) : Boxed W' b t v := (hb.block b hB).trans h
theorem below_grown {W W' : World} (h : Below W.heap.size W W') : W.grownBy W' none := ⟨h.os, h.tape, h.output, h.size, fun k hk _ => h.block k hk⟩
theorem own_set {W : World} {B size n b : Nat} {e : TypeId} {v u : Value} {xs : List Value} (h : W.ownsRow B e size v n xs) (hb : b < B) : (W.setCell ⟨b, 0, none⟩ u).ownsRow B e size v n xs := by
  refine ⟨h.1, ?_⟩
  rcases h.2 with hn | ⟨g, cap, cur, e1, h1, h2, h3⟩
  · exact .inl hn
  · exact .inr ⟨g, cap, cur, e1, h1, by rw [Below.heap_setCell W ⟨b, 0, none⟩ u g (by simp only; omega), h2], h3⟩
theorem cell_set_far {W : World} {b : Nat} {u : Value} {x : Addr} (h : x.block ≠ b) : (W.setCell ⟨b, 0, none⟩ u).cell? x = W.cell? x := by
  unfold World.cell?
  rw [Below.heap_setCell W ⟨b, 0, none⟩ u x.block h]

/-- A row of another kind than bytes stays while a row of bytes turns. -/
theorem own_other {W W' : World} {B B0 n m c d size : Nat} {e : TypeId} {C A : Option Addr} {K : List Int} {xs : List Value} (he : e ≠ 5) (h : W.ownsRow B e size (.slice C m d) m xs) (hk : Row W B0 A c K) (hg : W.grownBy W' (Value.slice A n c).ownBlock) : W'.ownsRow B e size (.slice C m d) m xs := by
  refine ⟨h.1, ?_⟩
  rcases h.2 with hn | ⟨g, cap, cur, e1, h1, h2, h3⟩
  · exact .inl hn
  · refine .inr ⟨g, cap, cur, e1, h1, ?_, h3⟩
    rw [hg.block g (Array.getElem?_eq_some_iff.1 h2).1 (fun e' => ?_), h2]
    rcases hk.2 with ⟨hn, _⟩ | ⟨g', cap', cur', e2, _, h2', _⟩
    · injection hn with hn
      rw [hn] at e'
      simp [Value.ownBlock] at e'
    · injection e2 with e2
      rw [e2] at e'
      have eg : g = g' := by simpa [Value.ownBlock] using e'
      rw [eg, h2'] at h2
      injection h2 with h2
      injection h2 with _ h2
      exact he h2.symm

/-- Between two rounds of reading. -/
structure StR (H : Nat) (w : World) (A : Option Addr) (n c : Nat) (s : Ks) (T : List Bp) (W : World) : Prop where
  low : Below H w W
  r0 : Boxed W H 22 (.slice none 0 0)
  r1 : Boxed W (H + 1) 25 (.int .i64 0)
  pay : ∃ A' c', Boxed W (H + 2) 22 (.slice A' T.length c') ∧ Prow W (H + 6) A' c' T
  box : Boxed W (H + 3) 24 (.slice A n c)
  rows : Mades W (H + 6) T
  key : Row W (H + 6) s.ka s.kc s.k
  far : Far s.ka T
  rd : rds T = s.ps
def IR (H : Nat) (w : World) (A : Option Addr) (n c : Nat) (s : Ks) (W : World) : Prop := ∃ T, StR H w A n c s T W
/-- A round has left. -/
structure XR (H : Nat) (w : World) (s : Ks) (W : World) : Prop where
  low : Below H w W
  r0 : Boxed W H 22 (.slice none 0 0)
  r1 : Boxed W (H + 1) 25 (.int .i64 s.e)
theorem StR.abide {H : Nat} {w W W' : World} {A : Option Addr} {n c : Nat} {s : Ks} {T : List Bp} {row : Option Nat} (h : StR H w A n c s T W) (hg : W.grownBy W' row) (hw : w.heap.size = H) (hr : ∀ r, row = some r → H + 4 ≤ r ∧ ∃ o : Obj, W.heap[r]? = some o ∧ o.isCells = false) : StR H w A n c s T W' := by
  have hb : ∀ {b : Nat} {t : TypeId} {v : Value}, Boxed W b t v → b < H + 4 → Boxed W' b t v := fun k hlt => boxed_abide k hg hlt (fun r e => (hr r e).1)
  have ho : ∀ {B size n : Nat} {e : TypeId} {v : Value} {xs : List Value}, W.ownsRow B e size v n xs → W'.ownsRow B e size v n xs := fun k => own_abide k hg (fun r e => (hr r e).2)
  obtain ⟨A', c', p1, p2⟩ := h.pay
  exact ⟨h.low.grown hg (by have := h.low.size; omega) (fun k e => by have := (hr k e).1; omega), hb h.r0 (by omega), hb h.r1 (by omega), ⟨A', c', hb p1 (by omega), ho p2⟩, hb h.box (by omega), fun q hq => ⟨ho (h.rows q hq).1, ho (h.rows q hq).2⟩, ho h.key, h.far, h.rd⟩
theorem XR.abide {H : Nat} {w W W' : World} {s : Ks} {row : Option Nat} (h : XR H w s W) (hg : W.grownBy W' row) (hw : w.heap.size = H) (hr : ∀ r, row = some r → H + 4 ≤ r ∧ ∃ o : Obj, W.heap[r]? = some o ∧ o.isCells = false) : XR H w s W' := by
  have hb : ∀ {b : Nat} {t : TypeId} {v : Value}, Boxed W b t v → b < H + 4 → Boxed W' b t v := fun k hlt => boxed_abide k hg hlt (fun r e => (hr r e).1)
  exact ⟨h.low.grown hg (by have := h.low.size; omega) (fun k e => by have := (hr k e).1; omega), hb h.r0 (by omega), hb h.r1 (by omega)⟩
theorem StR.turn {H : Nat} {w W W' : World} {A A' : Option Addr} {n c c' : Nat} {s : Ks} {T : List Bp} {K : List Int} (h : StR H w A n c s T W) (hr : Row W' (H + 6) A' c' K) (hb : Below (H + 6) W W') (hg : W.grownBy W' (Value.slice s.ka 0 s.kc).ownBlock) (hp : ∀ ad, A' = some ad → (∃ a0, s.ka = some a0 ∧ ad.block = a0.block) ∨ W.heap.size ≤ ad.block) : StR H w A n c ⟨s.ps, s.e, A', c', K⟩ T W' := by
  obtain ⟨A2, c2, p1, p2⟩ := h.pay
  have kb : ∀ {b : Nat} {t : TypeId} {v : Value}, Boxed W b t v → b < H + 4 → Boxed W' b t v := fun k hlt => boxed_below k hb (by omega)
  have hin : ∀ {B : Nat} {C : Option Addr} {d : Nat} {M : List Int}, Row W B C d M → ∀ cd, C = some cd → cd.block < W.heap.size := fun k cd e => (own_in k cd e).2
  refine ⟨h.low.trans (hb.mono (by omega)), kb h.r0 (by omega), kb h.r1 (by omega), ⟨A2, c2, kb p1 (by omega), own_other (by decide) p2 h.key hg⟩, kb h.box (by omega), fun q hq => ⟨own_far (h.rows q hq).1 hg (fun ad e cd e' => (h.far q hq ad e).1 cd e'), own_far (h.rows q hq).2 hg (fun ad e cd e' => (h.far q hq ad e).2 cd e')⟩, hr, fun q hq ad e => ?_, h.rd⟩
  rcases hp ad e with ⟨a0, e0, eb⟩ | hge
  · rw [eb]
    exact h.far q hq a0 e0
  · refine ⟨fun bd e' => ?_, fun bd e' => ?_⟩
    · have := hin (h.rows q hq).1 bd e'
      omega
    · have := hin (h.rows q hq).2 bd e'
      omega
theorem hostR {H : Nat} {w : World} {A : Option Addr} {L : List Int} {n c : Nat} (h : In w A L n c) (hw : w.heap.size = H) : Host (H + 6) (H + 3) A L n c (IR H w A n c) where
  box := fun s W ⟨T, hs⟩ => hs.box.cell
  in_ := fun s W ⟨T, hs⟩ => h.kept (by rw [hw]; exact hs.low)
  key := fun s W ⟨T, hs⟩ => hs.key
  bel := fun s W W' ⟨T, hs⟩ hb => ⟨T, hs.abide (below_grown hb) hw (fun r e => by cases e)⟩
  turn := fun s W W' A' c' K ⟨T, hs⟩ hr hb hg hp => ⟨T, hs.turn hr hb hg hp⟩

end Go.Proofs.Ytimonpoeieenpaa
