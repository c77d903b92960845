/-
  Walks: frames, read one behind the other, by the program.
-/
import Derived.Test.YtefkibflellfpaaWkH
namespace Go.Proofs.Ytefkibflellfpaa
open Go.RowKit Go.Shelf
attribute [local go_sem] Oper.semAt_some

theorem own_abide {W W' : World} {B size n : Nat} {e : TypeId} {v : Value} {xs : List Value} {row : Option Nat} (h : W.ownsRow B e size v n xs) (hg : W.grownBy W' row) (hr : ∀ r, row = some r → ∃ o : Obj, W.heap[r]? = some o ∧ o.isCells = false) : W'.ownsRow B e size v n xs := by
  refine h.kept hg ?_
  rcases h.2 with ⟨rfl, _⟩ | ⟨g, cap, cur, rfl, _, hgb, _⟩
  · exact .inl rfl
  · refine .inr fun e => ?_
    obtain ⟨o, ho, hc⟩ := hr g (by simpa [Value.ownBlock] using e.symm)
    rw [hgb] at ho
    cases ho
    cases hc
theorem boxed_abide {W W' : World} {B b : Nat} {t : TypeId} {v : Value} {row : Option Nat} (h : Boxed W b t v) (hg : W.grownBy W' row) (hb : b < B) (hr : ∀ r, row = some r → B ≤ r) : Boxed W' b t v :=
  h.kept hg (fun e => by have := hr b e.symm; omega)
theorem boxed_below {W W' : World} {B b : Nat} {t : TypeId} {v : Value} (h : Boxed W b t v) (hb : Below B W W') (hB : b < B) : Boxed W' b t v := (hb.block b hB).trans h
theorem below_grown {W W' : World} (h : Below W.heap.size W W') : W.grownBy W' none := ⟨h.os, h.tape, h.output, h.size, fun k hk _ => h.block k hk⟩

/-- Between two rounds: the boxes, what has been read. -/
structure St (H : Nat) (w : World) (A : Option Addr) (n c : Nat) (T : List Sl) (a : Nat) (W : World) : Prop where
  low : Below H w W
  r0 : Boxed W H 34 (.slice none 0 0)
  r1 : Boxed W (H + 1) 3 (.int .i64 0)
  r2 : Boxed W (H + 2) 29 (.int .i64 0)
  pay : ∃ A' c', Boxed W (H + 3) 34 (.slice A' T.length c') ∧ Srow W (H + 8) A' c' T
  fin : Boxed W (H + 4) 3 (.int .i64 a)
  box : Boxed W (H + 5) 22 (.slice A n c)
  rows : ∀ s ∈ T, Row W (H + 8) s.a s.c s.l
/-- A round has left the loop: the results stand. -/
structure Sx (H : Nat) (w : World) (T : List Sl) (a : Nat) (e : Int) (W : World) : Prop where
  low : Below H w W
  pay : ∃ A' c', Boxed W H 34 (.slice A' T.length c') ∧ Srow W (H + 8) A' c' T
  r1 : Boxed W (H + 1) 3 (.int .i64 a)
  r2 : Boxed W (H + 2) 29 (.int .i64 e)
  rows : ∀ s ∈ T, Row W (H + 8) s.a s.c s.l
theorem St.abide {H : Nat} {w W W' : World} {A : Option Addr} {n c : Nat} {T : List Sl} {a : Nat} {row : Option Nat} (h : St H w A n c T a W) (hw : w.heap.size = H) (hg : W.grownBy W' row) (hr : ∀ r, row = some r → H + 6 ≤ r ∧ ∃ o : Obj, W.heap[r]? = some o ∧ o.isCells = false) : St H w A n c T a W' := by
  have hb : ∀ {b : Nat} {t : TypeId} {v : Value}, Boxed W b t v → b < H + 6 → Boxed W' b t v := fun k hlt => boxed_abide k hg hlt (fun r e => (hr r e).1)
  have ho : ∀ {B size n : Nat} {e : TypeId} {v : Value} {xs : List Value}, W.ownsRow B e size v n xs → W'.ownsRow B e size v n xs := fun k => own_abide k hg (fun r e => (hr r e).2)
  obtain ⟨A', c', p1, p2⟩ := h.pay
  exact ⟨h.low.grown hg (by have := h.low.size; omega) (fun k e => by have := (hr k e).1; omega), hb h.r0 (by omega), hb h.r1 (by omega), hb h.r2 (by omega), ⟨A', c', hb p1 (by omega), ho p2⟩, hb h.fin (by omega), hb h.box (by omega), fun s hs => ho (h.rows s hs)⟩
theorem Sx.abide {H : Nat} {w W W' : World} {T : List Sl} {a : Nat} {e : Int} {row : Option Nat} (h : Sx H w T a e W) (hw : w.heap.size = H) (hg : W.grownBy W' row) (hr : ∀ r, row = some r → H + 6 ≤ r ∧ ∃ o : Obj, W.heap[r]? = some o ∧ o.isCells = false) : Sx H w T a e W' := by
  have hb : ∀ {b : Nat} {t : TypeId} {v : Value}, Boxed W b t v → b < H + 6 → Boxed W' b t v := fun k hlt => boxed_abide k hg hlt (fun r e => (hr r e).1)
  have ho : ∀ {B size n : Nat} {e : TypeId} {v : Value} {xs : List Value}, W.ownsRow B e size v n xs → W'.ownsRow B e size v n xs := fun k => own_abide k hg (fun r e => (hr r e).2)
  obtain ⟨A', c', p1, p2⟩ := h.pay
  exact ⟨h.low.grown hg (by have := h.low.size; omega) (fun k e => by have := (hr k e).1; omega), ⟨A', c', hb p1 (by omega), ho p2⟩, hb h.r1 (by omega), hb h.r2 (by omega), fun s hs => ho (h.rows s hs)⟩

theorem own_set {W : World} {B size n b : Nat} {e : TypeId} {v u : Value} {xs : List Value} (h : W.ownsRow B e size v n xs) (hb : b < B) : (W.setCell ⟨b, 0, none⟩ u).ownsRow B e size v n xs := by
  refine ⟨h.1, ?_⟩
  rcases h.2 with hn | ⟨g, cap, cur, e1, h1, h2, h3⟩
  · exact .inl hn
  · exact .inr ⟨g, cap, cur, e1, h1, by rw [Below.heap_setCell W ⟨b, 0, none⟩ u g (by simp only; omega), h2], h3⟩
theorem cell_set_far {W : World} {b : Nat} {u : Value} {x : Addr} (h : x.block ≠ b) : (W.setCell ⟨b, 0, none⟩ u).cell? x = W.cell? x := by
  unfold World.cell?
  rw [Below.heap_setCell W ⟨b, 0, none⟩ u x.block h]
/-- A round that goes on, behind its append. -/
theorem St.next {H : Nat} {w W₂ W₃ : World} {A A' A2 : Option Addr} {n c c' c2 a a' m : Nat} {T : List Sl} {x : Sl} {o : Obj} (h : St H w A n c T a W₂) (_hw : w.heap.size = H) (hx : Row W₂ (H + 8) x.a x.c x.l) (hm : T.length = m) (hT : Srow W₂ (H + 8) A' c' T)
    (r2 : Srow W₃ (H + 8) A2 c2 (T ++ [x])) (b2 : Below (H + 8) (W₂.alloc o) W₃) (g2 : (W₂.alloc o).grownBy W₃ (Value.slice A' m c').ownBlock) (hs : H + 8 ≤ W₂.heap.size) :
    St H w A n c (T ++ [x]) a' ((W₃.setCell ⟨H + 3, 0, none⟩ (.slice A2 (m + 1) c2)).setCell ⟨H + 4, 0, none⟩ (.int .i64 (a' : Nat))) ∧ Two (H + 6) W₂ ((W₃.setCell ⟨H + 3, 0, none⟩ (.slice A2 (m + 1) c2)).setCell ⟨H + 4, 0, none⟩ (.int .i64 (a' : Nat))) := by
  have b3 : Below (H + 8) W₂ W₃ := ((Below.refl (H + 8) W₂).alloc hs o).trans b2
  have kb : ∀ {b : Nat} {t : TypeId} {v : Value}, Boxed W₂ b t v → b < H + 8 → Boxed W₃ b t v := fun k hlt => boxed_below k b3 hlt
  have hrows := rows_grown (B := H + 8) hT hm h.rows hx g2
  obtain ⟨A0, c0, p1, -⟩ := h.pay
  have hb3 : ∀ k, k ≠ H + 3 → k ≠ H + 4 → ((W₃.setCell ⟨H + 3, 0, none⟩ (.slice A2 (m + 1) c2)).setCell ⟨H + 4, 0, none⟩ (.int .i64 (a' : Nat))).heap[k]? = W₃.heap[k]? := fun k h3 h4 => by
    rw [Below.heap_setCell _ ⟨H + 4, 0, none⟩ _ k h4, Below.heap_setCell _ ⟨H + 3, 0, none⟩ _ k h3]
  have kx : ∀ {b : Nat} {t : TypeId} {v : Value}, Boxed W₂ b t v → b < H + 8 → b ≠ H + 3 → b ≠ H + 4 → Boxed ((W₃.setCell ⟨H + 3, 0, none⟩ (.slice A2 (m + 1) c2)).setCell ⟨H + 4, 0, none⟩ (.int .i64 (a' : Nat))) b t v := fun k hlt h3 h4 => (hb3 _ h3 h4).trans (kb k hlt)
  have hlen : (T ++ [x]).length = m + 1 := by rw [List.length_append, hm]; rfl
  refine ⟨⟨?_, kx h.r0 (by omega) (by omega) (by omega), kx h.r1 (by omega) (by omega) (by omega), kx h.r2 (by omega) (by omega) (by omega), ⟨A2, c2, ?_, own_set (own_set r2 (by omega)) (by omega)⟩, ?_, kx h.box (by omega) (by omega) (by omega), fun s hs' => own_set (own_set (hrows s hs') (by omega)) (by omega)⟩, ?_, ?_⟩
  · exact ((h.low.trans (b3.mono (by omega))).setCell (p := ⟨H + 3, 0, none⟩) (by simp only; omega) _).setCell (p := ⟨H + 4, 0, none⟩) (by simp only; omega) _
  · rw [hlen]
    exact ((kb p1 (by omega)).set _).other (by omega) _
  · exact ((kb h.fin (by omega)).other (by omega) _).set _
  · rw [hb3 _ (by omega) (by omega)]
    exact b3.block _ (by omega)
  · rw [hb3 _ (by omega) (by omega)]
    exact b3.block _ (by omega)

/-- A round that leaves, behind its stores. -/
theorem St.left {H : Nat} {w W₂ : World} {A A' : Option Addr} {n c c' a m : Nat} {T : List Sl} {e : Int} (h : St H w A n c T a W₂) (_hw : w.heap.size = H) (hm : T.length = m) (hT : Srow W₂ (H + 8) A' c' T) :
    Sx H w T a e (((W₂.setCell ⟨H, 0, none⟩ (.slice A' m c')).setCell ⟨H + 1, 0, none⟩ (.int .i64 (a : Int))).setCell ⟨H + 1 + 1, 0, none⟩ (.int .i64 e)).drew ∧ Two (H + 6) W₂ (((W₂.setCell ⟨H, 0, none⟩ (.slice A' m c')).setCell ⟨H + 1, 0, none⟩ (.int .i64 (a : Int))).setCell ⟨H + 1 + 1, 0, none⟩ (.int .i64 e)).drew := by
  subst hm
  have far : ∀ k, H + 2 < k → (((W₂.setCell ⟨H, 0, none⟩ (.slice A' T.length c')).setCell ⟨H + 1, 0, none⟩ (.int .i64 (a : Int))).setCell ⟨H + 1 + 1, 0, none⟩ (.int .i64 e)).heap[k]? = W₂.heap[k]? := fun k hk => by
    rw [Below.heap_setCell _ ⟨H + 1 + 1, 0, none⟩ _ k (by simp only; omega), Below.heap_setCell _ ⟨H + 1, 0, none⟩ _ k (by simp only; omega), Below.heap_setCell _ ⟨H, 0, none⟩ _ k (by simp only; omega)]
  refine ⟨⟨?_, ⟨A', c', ?_, own_set (own_set (own_set hT (by omega)) (by omega)) (by omega)⟩, ?_, ?_, fun s hs => own_set (own_set (own_set (h.rows s hs) (by omega)) (by omega)) (by omega)⟩, far _ (by omega), far _ (by omega)⟩
  · exact (((h.low.setCell (p := ⟨H, 0, none⟩) (Nat.le_refl _) _).setCell (p := ⟨H + 1, 0, none⟩) (by simp only; omega) _).setCell (p := ⟨H + 1 + 1, 0, none⟩) (by simp only; omega) _).drew
  · exact ((h.r0.set _).other (by omega) _).other (by omega) _
  · exact ((h.r1.other (by omega) _).set _).other (by omega) _
  · exact ((h.r2.other (by omega) _).other (by omega) _).set _

theorem beside_cells {W W' : World} {D d E m : Nat} {C : Option Addr} {T : List Sl} {cs : Array Value} {t : TypeId} {fr : Nat × Nat} {o : Obj} (h : W.heap[E]? = some (.cells cs t fr)) (ht : t ≠ 22) (hs : Srow W D C d T) (hm : T.length = m) (hg : (W.alloc o).grownBy W' (Value.slice C m d).ownBlock) : W'.heap[E]? = some (.cells cs t fr) := by
  subst hm
  have hlt := (Array.getElem?_eq_some_iff.1 h).1
  rw [hg.block E (by rw [World.size_alloc]; omega), Below.heap_alloc W o E hlt, h]
  intro e
  rcases hs.2 with ⟨hn, _⟩ | ⟨g', cap', cur', e', _, h2', _⟩
  · rw [hn] at e
    simp [Value.ownBlock] at e
  · rw [e'] at e
    obtain rfl : E = g' := by simpa [Value.ownBlock] using e
    rw [h] at h2'
    injection h2' with h2'
    injection h2' with _ h2'
    exact ht h2'
theorem wpListIn_append_srow {F : Fence} {nn : Nat} (w : World) {ops : Array Oper} {rest : List Oper} {o : Oper} {a : Act} {Q : Exit → Act → World → Prop} (hgd : o.guard = none) (s x : Operand)
    (ho : o.op = .call { callee := .builtin .append, args := #[s, x], argTypes := #[34, 34] })
    (B : Nat) (A : Option Addr) (c : Nat) (T U : List Sl) (C : Option Addr) (n m cm : Nat) (hs : a.eval s = .slice A n c) (hx : a.eval x = .slice C m cm) (en : T.length = n) (em : U.length = m) (h : Srow w B A c T) (hm : Lies w C (svals U)) (hB : B ≤ w.heap.size) (hr : (T.length + U.length) * 24 ≤ 140737488355328)
    (k : ∀ A' c' w', Srow w' B A' c' (T ++ U) → Below B w w' → w.grownBy w' (Value.slice A n c).ownBlock → wpListIn F nn Try.prog ops Q rest (a.put o.dst (.slice A' (n + m) c')) w') : wpListIn F nn Try.prog ops Q (o :: rest) a w := by
  subst en
  subst em
  obtain ⟨i, hi, hz0, hz1, hz2⟩ := info_parts info22
  refine wpListIn_plain hgd fun K hK => ?_
  obtain ⟨A', c', w', r, h2, h3, h4⟩ := run_append_grown w 34 o.type 22 i (.slice none 0 0) 1 24 Try.underlying34 hi hz0 hz1 hz2 rfl (by decide) B A T.length c (svals T) h C U.length cm (svals U) (by simp [svals_len]) hm svals_one (by unfold maxLen; omega) hr hB
  rw [← svals_append] at h2
  have k' := k A' c' w' (by unfold Srow; rw [List.length_append]; exact h2) h3 h4
  unfold Oper.wpIn
  refine ⟨?_, ?_⟩
  · simp [Oper.about, ho, resolve, Target.leads, Sem.run_pure]
  · rw [Oper.semAt_plain F _ _ (by rw [ho]; intro c hc'; cases hc')]
    unfold execOp
    simp only [ho, resolve, invoke, builtin, Sem.run_bind, Sem.run_pure, Result.andThen_ok, List.map_toArray, List.map_cons, List.map_nil, hs, hx, r]
    exact hK _ _ k'

theorem frames_any (A : Option Addr) (n c : Nat) (w : World) :
    Calls Try.prog 25 #[.slice A n c] w fun e w' => e = .returned (.func (.func 29) #[] #[.pointer (some ⟨w.heap.size, 0, none⟩)]) ∧ w' = w.alloc (.cells #[.slice A n c] 22) := by
  go_enter Try.func25, Try.ntmps25
  go_wp2
  go_ret
  exact ⟨rfl, rfl⟩

/-- Where a walk stands: payloads, the place, the error. -/
structure Sg where
  t : List Sl
  a : Nat
  e : Int
/-- A round that goes on. -/
def OnR (H : Nat) (_L : List Int) (s : Sg) (args : Array Value) (s' : Sg) (W : World) : Prop :=
  H + 8 ≤ W.heap.size ∧ s.e = 0 ∧ ∃ (x : Sl) (q k : Nat), s' = ⟨s.t ++ [x], s.a + k, 0⟩ ∧ x.l.length = q ∧ args = #[.agg #[.slice x.a q x.c, .int .i64 ((s.a : Int) + (k : Int))], .int .i64 0] ∧ Row W (H + 8) x.a x.c x.l ∧ (s.t.length + 1) * 24 ≤ 140737488355328
/-- A round that leaves. -/
def OffR (H : Nat) (s : Sg) (args : Array Value) (s' : Sg) (W : World) : Prop :=
  H + 8 ≤ W.heap.size ∧ ∃ (A1 : Option Addr) (c1 : Nat) (e : Int), e ≠ 0 ∧ s' = ⟨s.t, s.a, e⟩ ∧ args = #[.agg #[.slice A1 0 c1, .int .i64 0], .int .i64 e]
theorem st_start (w : World) (A : Option Addr) (n c : Nat) : St w.heap.size w A n c [] 0 ((((((w.alloc (.cells #[.slice none 0 0] 34)).alloc (.cells #[.int .i64 0] 3)).alloc (.cells #[.int .i64 0] 29)).alloc (.cells #[.slice none 0 0] 34)).alloc (.cells #[.int .i64 0] 3)).alloc (.cells #[.slice A n c] 22)) := by
  have b0 := Boxed.new w 34 (.slice none 0 0)
  have b1 := Boxed.new (w.alloc (.cells #[.slice none 0 0] 34)) 3 (.int .i64 0)
  have b2 := Boxed.new ((w.alloc (.cells #[.slice none 0 0] 34)).alloc (.cells #[.int .i64 0] 3)) 29 (.int .i64 0)
  have b3 := Boxed.new (((w.alloc (.cells #[.slice none 0 0] 34)).alloc (.cells #[.int .i64 0] 3)).alloc (.cells #[.int .i64 0] 29)) 34 (.slice none 0 0)
  have b4 := Boxed.new ((((w.alloc (.cells #[.slice none 0 0] 34)).alloc (.cells #[.int .i64 0] 3)).alloc (.cells #[.int .i64 0] 29)).alloc (.cells #[.slice none 0 0] 34)) 3 (.int .i64 0)
  have b5 := Boxed.new (((((w.alloc (.cells #[.slice none 0 0] 34)).alloc (.cells #[.int .i64 0] 3)).alloc (.cells #[.int .i64 0] 29)).alloc (.cells #[.slice none 0 0] 34)).alloc (.cells #[.int .i64 0] 3)) 22 (.slice A n c)
  simp only [World.size_alloc] at b1 b2 b3 b4 b5
  refine ⟨?_, ((((b0.alloc _).alloc _).alloc _).alloc _).alloc _, (((b1.alloc _).alloc _).alloc _).alloc _, ((b2.alloc _).alloc _).alloc _, ⟨none, 0, (b3.alloc _).alloc _, Srow.nil _ _⟩, b4.alloc _, b5, fun s hs => by cases hs⟩
  refine ((((((Below.refl _ w).alloc (Nat.le_refl _) _).alloc ?_ _).alloc ?_ _).alloc ?_ _).alloc ?_ _).alloc ?_ _
  all_goals simp only [World.size_alloc]; omega

/-- What the loop has left in the results, behind the loop's last step. -/
theorem Sx.ends {H : Nat} {w W : World} {T : List Sl} {a : Nat} {e : Int} {p : List (List Int) × Nat × Int} (h : Sx H w T a e W) (hw : w.heap.size = H) (hK : W.heap[H + 6]? = some (.deferred (some []))) (hp : p = (byts T, a, e)) :
    ∃ A' c', (W.putObj (H + 6) (.deferred none)).cell? ⟨H, 0, none⟩ = some (.slice A' T.length c') ∧ (W.putObj (H + 6) (.deferred none)).cell? ⟨H + 1, 0, none⟩ = some (.int .i64 (a : Int)) ∧ (W.putObj (H + 6) (.deferred none)).cell? ⟨H + 1 + 1, 0, none⟩ = some (.int .i64 e) ∧
      GotAll w p (.returned (.tuple #[.slice A' T.length c', .int .i64 (a : Nat), .int .i64 e])) (W.putObj (H + 6) (.deferred none)) := by
  have g := h.abide (row := some (H + 6)) hw (grownBy_putObj' W (H + 6) (.deferred none)) (fun r e => by injection e with e; subst e; exact ⟨Nat.le_refl _, _, hK, rfl⟩)
  obtain ⟨A', c', p1, p2⟩ := g.pay
  subst hw
  exact ⟨A', c', p1.cell, g.r1.cell, g.r2.cell, got_all w p A' c' T.length T _ a e rfl (p2.mono (by omega)) hp (fun s hs => (g.rows s hs).mono (by omega)) g.low⟩

set_option maxRecDepth 100000 in
set_option maxHeartbeats 4000000 in
theorem all_any (A : Option Addr) (L : List Int) (n c : Nat) (w : World) (h : In w A L n c) (hs : n ≤ 35184372088832) :
    Calls Try.prog 15 #[.slice A n c] w (GotAll w (allL L)) := by
  have HI := Lib.hid h
  have HS := Lib.hid hs
  clear h hs
  refine (callsIn_wide (n := 9)).1 ?_
  refine callsIn_of_wp_marks Try.func15 rfl trivial ?_ rfl
  simp only [Try.ntmps15, List.size_toArray, List.length_cons, List.length_nil, Nat.reduceAdd, Nat.reduceSub, Array.replicate_succ, Array.replicate_zero, List.push_toArray, List.append_toArray, List.nil_append, List.cons_append]
  gi_wp2_with (refine ⟨trivial, ?_⟩; gi_at_call 25; refine (callsIn_wide.2 (frames_any _ _ _ _)).mono ?_; rintro e w' ⟨rfl, rfl⟩)
  obtain ⟨W0, hW0⟩ : ∃ W0, ((((((w.alloc (.cells #[.slice none 0 0] 34)).alloc (.cells #[.int .i64 0] 3)).alloc (.cells #[.int .i64 0] 29)).alloc (.cells #[.slice none 0 0] 34)).alloc (.cells #[.int .i64 0] 3)).alloc (.cells #[.slice A n c] 22)) = W0 := ⟨_, rfl⟩
  have ST := st_start w A n c
  have hs6 : W0.heap.size = w.heap.size + 6 := by rw [← hW0]; simp only [World.size_alloc]
  rw [hW0] at ST ⊢
  obtain ⟨H, hH⟩ : ∃ H, w.heap.size = H := ⟨_, rfl⟩
  rw [hH] at ST hs6 ⊢
  refine range_told (σ := Sg) (gf := 29) (lb := #[.pointer (some ⟨H + 5, 0, none⟩)]) rfl (enters_of Try.func29 (by kernel_rfl) rfl)
    (fun s W => St H w A n c s.t s.a W) (fun s W => Sx H w s.t s.a s.e W)
    (fun s X Y row k hg hr => k.abide hH hg (fun r e => by have := hr r e; rw [hs6] at this; exact this)) (fun s X Y row k hg hr => k.abide hH hg (fun r e => by have := hr r e; rw [hs6] at this; exact this))
    (OnR H L) (OffR H) ⟨[], 0, 0⟩ ST (fun s => allL L = (byts s.t, s.a, 0)) (fun s => allL L = (byts s.t, s.a, s.e)) ?size ?on ?off ?iter ?done ?left
  case size =>
    rintro s args s' W (⟨_, _, x, q, k, _, _, rfl, _⟩ | ⟨_, A1, c1, e, _, _, rfl⟩) <;> rfl
  case on =>
    rintro ⟨T, a, e⟩ args s' W ⟨hsz, rfl, x, q, k, rfl, hq, rfl, hrow, hb⟩ hst
    unfold RoundOf
    rw [hs6]
    simp only at hst hb
    obtain ⟨m, hm⟩ : ∃ m, T.length = m := ⟨_, rfl⟩
    gi_wp2
    refine ⟨Two.below ((Below.refl (H + 8) W).alloc hsz _) (by omega), fun W₂ g2 hl => ?_⟩
    have hs2 : H + 8 ≤ W₂.heap.size := by have := g2.size; rw [World.size_alloc] at this; omega
    have hr2 : ∀ r, some (H + 6 + 1) = some r → H + 6 ≤ r ∧ ∃ o : Obj, (W.alloc (.cells #[.slice x.a q x.c, .int .i64 ((a : Int) + (k : Int))] 52)).heap[r]? = some o ∧ o.isCells = false := fun r e => by injection e with e; subst e; exact ⟨by omega, hl⟩
    have st2 : St H w A n c T a W₂ := (hst.abide hH (World.grownBy_alloc W _ none) (fun r e => by cases e)).abide hH g2 hr2
    have x2 : Row W₂ (H + 8) x.a x.c x.l := own_abide (hrow.alloc _) g2 (fun r e => (hr2 r e).2)
    have e2 : W₂.heap[W.heap.size]? = some (.cells #[.slice x.a q x.c, .int .i64 ((a : Int) + (k : Int))] 52 (0, 0)) := by
      rw [g2.block _ (by rw [World.size_alloc]; omega) (by intro e; injection e with e; omega)]
      exact heap_alloc_new W _
    obtain ⟨E, hE⟩ : ∃ E, W.heap.size = E := ⟨_, rfl⟩
    rw [hE] at e2 ⊢
    have d0 : W₂.cell? ⟨E, 0, none⟩ = some (.slice x.a q x.c) := by simp [World.cell?, e2]
    have d1 : W₂.cell? ⟨E, 1, none⟩ = some (.int .i64 ((a : Int) + (k : Int))) := by simp [World.cell?, e2]
    obtain ⟨A', c', p1, p2⟩ := st2.pay
    rw [hm] at p1
    have d3 : W₂.cell? ⟨H + 1 + 1 + 1, 0, none⟩ = some (.slice A' m c') := p1.cell
    clear hst hrow g2 hr2 hl
    gi_wp2_with (gi_at_builtin; refine wpListIn_append_srow _ rfl (.tmp 18) (.tmp 21) rfl (H + 8) A' c' T [x] _ m 1 1 rfl rfl hm rfl (p2.alloc _) (lit_lies W₂ _ _ (by simp [svals, Sl.val, hq]) _) (by rw [World.size_alloc]; omega) (by simp; omega) ?_; intro A2 c2 W₃ r3 b3 g3; have q3 := boxed_below (p1.alloc (.cells #[.slice x.a q x.c] 22)) b3 (by omega); have q4 := boxed_below (st2.fin.alloc (.cells #[.slice x.a q x.c] 22)) b3 (by omega); have e3 := beside_cells e2 (by decide) p2 hm g3; have d4 : W₃.cell? ⟨H + 1 + 1 + 1, 0, none⟩ = some (.slice A' m c') := q3.cell; have f4 : W₃.frozen? ⟨H + 1 + 1 + 1, 0, none⟩ = false := q3.frozen; have d5 : W₃.cell? ⟨H + 1 + 1 + 1 + 1, 0, none⟩ = some (.int .i64 (a : Int)) := q4.cell; have f5 : W₃.frozen? ⟨H + 1 + 1 + 1 + 1, 0, none⟩ = false := q4.frozen; have d6 : W₃.cell? ⟨E, 1, none⟩ = some (.int .i64 ((a : Int) + (k : Int))) := by simp [World.cell?, e3])
    obtain ⟨g1, g2⟩ := st2.next (a' := a + k) hH x2 hm p2 r3 b3 g3 hs2
    exact ⟨g2, g1⟩
  case off =>
    rintro ⟨T, a, e0⟩ args s' W ⟨hsz, A1, c1, e, he, rfl, rfl⟩ hst
    unfold RoundOf
    rw [hs6]
    simp only at hst
    obtain ⟨m, hm⟩ : ∃ m, T.length = m := ⟨_, rfl⟩
    have he' : (e == 0) = false := by simpa using he
    gi_wp2
    refine ⟨Two.below ((Below.refl (H + 8) W).alloc hsz _) (by omega), fun W₂ g2 hl => ?_⟩
    have hs2 : H + 8 ≤ W₂.heap.size := by have := g2.size; rw [World.size_alloc] at this; omega
    have hr2 : ∀ r, some (H + 6 + 1) = some r → H + 6 ≤ r ∧ ∃ o : Obj, (W.alloc (.cells #[.slice A1 0 c1, .int .i64 0] 52)).heap[r]? = some o ∧ o.isCells = false := fun r e => by injection e with e; subst e; exact ⟨by omega, hl⟩
    have st2 : St H w A n c T a W₂ := (hst.abide hH (World.grownBy_alloc W _ none) (fun r e => by cases e)).abide hH g2 hr2
    obtain ⟨A', c', p1, p2⟩ := st2.pay
    rw [hm] at p1
    have d3 : W₂.cell? ⟨H + 1 + 1 + 1, 0, none⟩ = some (.slice A' m c') := p1.cell
    have d4 : W₂.cell? ⟨H + 1 + 1 + 1 + 1, 0, none⟩ = some (.int .i64 (a : Int)) := st2.fin.cell
    have d0 : W₂.cell? ⟨H, 0, none⟩ = some (.slice none 0 0) := st2.r0.cell
    have f0 : W₂.frozen? ⟨H, 0, none⟩ = false := st2.r0.frozen
    have d1 : W₂.cell? ⟨H + 1, 0, none⟩ = some (.int .i64 0) := st2.r1.cell
    have f1 : W₂.frozen? ⟨H + 1, 0, none⟩ = false := st2.r1.frozen
    have d2 : W₂.cell? ⟨H + 1 + 1, 0, none⟩ = some (.int .i64 0) := st2.r2.cell
    have f2 : W₂.frozen? ⟨H + 1 + 1, 0, none⟩ = false := st2.r2.frozen
    have hmix : Try.prog.follows .mixedOrders = true := by kernel_rfl
    clear hst g2 hr2 hl
    gi_wp2
    gi_region_with_o (fail)
    all_goals
      gi_wp2
      obtain ⟨g1, g2⟩ := st2.left (e := e) hH hm p2
      exact ⟨g2, g1⟩
  case iter =>
    intro R R' hR hRs hyes hno W hi hr
    rw [hs6] at hRs hyes hno ⊢
    refine callsIn_of_wp Try.func29 rfl trivial ?_ rfl
    simp only [Try.ntmps29, List.size_toArray, List.length_cons, List.length_nil, Nat.reduceAdd, Nat.reduceSub, Array.replicate_succ, Array.replicate_zero, List.push_toArray, List.append_toArray, List.nil_append, List.cons_append]
    have HST := Lib.hid hi
    have HR := Lib.hid hr
    have HYES := Lib.hid hyes
    have HNO := Lib.hid hno
    have HRK := Lib.hid hR
    have HRS := Lib.hid hRs
    clear hi hr hyes hno hR hRs
    gi_wp2
    gi_loopw [3] (fun t3 wr => ∃ (a : Nat) (T : List Sl), t3 = .int .i64 a ∧ Hid (a ≤ n ∧ 8 * T.length ≤ a ∧ LeftF L (byts T) a) ∧ Hid (St H w A n c T a wr) ∧ Hid (R wr)) (fun t3 _ => n - (intOf t3).toNat)
    case atStart => exact ⟨0, [], rfl, Lib.hid ⟨by omega, by simp, LeftF.refl L⟩, HST, HR⟩
    case round =>
      obtain ⟨a, T, rfl, hp, hst, hr⟩ := hrel
      have c5 : wr.cell? ⟨H + 5, 0, none⟩ = some (.slice A n c) := hst.out.box.cell
      by_cases hlt : a < n
      · have IN : Hid (In wr A L n c) := Lib.hid (HI.out.kept (by rw [hH]; exact hst.out.low))
        obtain ⟨⟨p, k, e⟩, hRL⟩ : ∃ R, readL (L.drop a) = R := ⟨_, rfl⟩
        have HRL := Lib.hid hRL
        have HP := Lib.hid (readP_is (by rw [HI.out.len]; omega) p k e hRL)
        have RD := Lib.hid (callsIn_wide.2 (read_any A L n c a wr IN.out) : CallsIn Fence.wide 7 Try.prog _ _ _ _)
        have hal : Hid (a < L.length) := Lib.hid (by rw [HI.out.len]; exact hlt)
        have hk := readL_ok (L.drop a)
        rw [hRL] at hk
        have kept1 : Hid (∀ W', Below wr.heap.size wr W' → St H w A n c T a W') := Lib.hid (fun W' b => hst.out.abide hH (below_grown b) (fun r e => by cases e))
        have size8 : Hid (∀ W', Below wr.heap.size wr W' → H + 8 ≤ W'.heap.size) := Lib.hid (fun W' b => by have := HRS.out wr hr.out; have := b.size; omega)
        by_cases h0 : e = 0
        · subst h0
          rw [if_pos rfl] at HP
          rw [HP.out] at RD
          obtain ⟨k0, k1, -⟩ := hk rfl
          have HK : Hid (a + k ≤ n ∧ 8 ≤ k) := Lib.hid (by simp only [List.length_drop, HI.out.len] at k0 k1 ⊢; omega)
          have HL : Hid (LeftF L (byts T ++ [p]) (a + k)) := Lib.hid (by
            have := hp.out.2.2.step hal.out (by rw [HRL.out])
            rwa [HRL.out] at this)
          obtain ⟨q, hq⟩ : ∃ q, p.length = q := ⟨_, rfl⟩
          have HQ := Lib.hid hq
          have hbig : Hid ((T.length + 1) * 24 ≤ 140737488355328) := Lib.hid (by have := hp.out; have := HS.out; omega)
          clear hRL hk k0 k1 hq
          gi_wp2_with (refine ⟨trivial, ?_⟩; gi_at_call 13; refine RD.out.mono ?_; rintro e1 w1 ⟨A1, c1, rfl, r1, b1⟩; simp only [HQ.out]; have S1 := kept1.out w1 b1; have Q1 := HRK.out wr w1 hr.out b1; obtain ⟨fn, tmps, assign, body, hy, hY⟩ := HYES.out ⟨T, a, 0⟩ _ ⟨T ++ [⟨A1, c1, p⟩], a + k, 0⟩ w1 ⟨size8.out w1 b1, rfl, ⟨A1, c1, p⟩, q, k, rfl, HQ.out, rfl, r1.mono (size8.out wr (Below.refl _ _)), hbig.out⟩ S1 Q1; have HY := Lib.hid hY; clear hY S1 Q1 r1 b1)
          refine HY.out.mono ?_
          rintro e W' ⟨rfl, S2, Q2⟩
          have HS2 := Lib.hid S2
          have HQ2 := Lib.hid Q2
          clear S2 Q2 HY hy
          gi_wp2
          go_roundw
          case rel => exact ⟨a + k, T ++ [⟨A1, c1, p⟩], by go_num, Lib.hid ⟨HK.out.1, by rw [List.length_append]; have := hp.out; have := HK.out; simp only [List.length_singleton]; omega, by rw [byts_append]; exact HL.out⟩, HS2, HQ2⟩
          case measure => have := HK.out; simp [intOf]; omega
        · have h0' : (e == 0) = false := by simpa using h0
          rw [if_neg h0] at HP
          rw [HP.out] at RD
          have HE := Lib.hid (hp.out.2.2.bad hal.out (by rw [HRL.out]; exact h0))
          rw [HRL.out] at HE
          have HZ := Lib.hid h0
          clear hRL hk h0
          gi_wp2_with (refine ⟨trivial, ?_⟩; gi_at_call 13; refine RD.out.mono ?_; rintro e1 w1 ⟨A1, c1, rfl, r1, b1⟩; have S1 := kept1.out w1 b1; have Q1 := HRK.out wr w1 hr.out b1; obtain ⟨fn, tmps, assign, body, hy, hY⟩ := HNO.out ⟨T, a, 0⟩ _ ⟨T, a, e⟩ w1 ⟨size8.out w1 b1, A1, c1, e, HZ.out, rfl, rfl⟩ S1 Q1; have HY := Lib.hid hY; clear hY S1 Q1 r1 b1)
          refine HY.out.mono ?_
          rintro e2 W' ⟨rfl, S2, Q2⟩
          have HS2 := Lib.hid S2
          have HQ2 := Lib.hid Q2
          clear S2 Q2 HY hy
          gi_wp2
          refine bodyPost_ret (results_none rfl _ _ _) rfl ?_
          exact ⟨⟨_, rfl⟩, .inr ⟨⟨T, a, e⟩, HE.out, HS2.out, HQ2.out⟩⟩
      · have HE := Lib.hid (hp.out.2.2.end_ (by rw [HI.out.len]; omega))
        gi_wp2
        go_end0
        exact ⟨⟨_, rfl⟩, .inl ⟨⟨T, a, 0⟩, HE.out, hst.out, hr.out⟩⟩
  case done =>
    rintro ⟨T, a, e⟩ W hd hst hK
    rw [hs6] at hK ⊢
    simp only at hd hst
    obtain ⟨m, hm⟩ : ∃ m, T.length = m := ⟨_, rfl⟩
    obtain ⟨A', c', p1, p2⟩ := hst.pay
    rw [hm] at p1
    have d3 : W.cell? ⟨H + 1 + 1 + 1, 0, none⟩ = some (.slice A' m c') := p1.cell
    have d4 : W.cell? ⟨H + 1 + 1 + 1 + 1, 0, none⟩ = some (.int .i64 (a : Int)) := hst.fin.cell
    have d0 : W.cell? ⟨H, 0, none⟩ = some (.slice none 0 0) := hst.r0.cell
    have f0 : W.frozen? ⟨H, 0, none⟩ = false := hst.r0.frozen
    have d1 : W.cell? ⟨H + 1, 0, none⟩ = some (.int .i64 0) := hst.r1.cell
    have f1 : W.frozen? ⟨H + 1, 0, none⟩ = false := hst.r1.frozen
    have d2 : W.cell? ⟨H + 1 + 1, 0, none⟩ = some (.int .i64 0) := hst.r2.cell
    have f2 : W.frozen? ⟨H + 1 + 1, 0, none⟩ = false := hst.r2.frozen
    have hmix : Try.prog.follows .mixedOrders = true := by kernel_rfl
    obtain ⟨g1, g2⟩ := hst.left (e := 0) hH hm p2
    have hK2 := g2.1.trans hK
    obtain ⟨A4, c4, k0, k1, k2, ga⟩ := g1.ends hH hK2 hd
    have HZ := Lib.hid (And.intro hK2 (And.intro k0 (And.intro k1 (And.intro k2 ga))))
    clear g1 g2 hK2 k0 k1 k2 ga hd
    gi_wp2
    gi_region_with_o (fail)
    all_goals
      gi_wp2
      obtain ⟨hK2, k0, k1, k2, ga⟩ := HZ.out
      refine ⟨by simp, .inl ⟨_, _, rfl, run_takeDeferred hK2, ?_⟩⟩
      refine ⟨_, ?_, ga⟩
      simp [results, Try.f15, go_sem, k0, k1, k2]
  case left =>
    rintro ⟨T, a, e⟩ W hd hst hK
    rw [hs6] at hK ⊢
    simp only at hd hst
    obtain ⟨A4, c4, k0, k1, k2, ga⟩ := hst.ends hH hK hd
    gi_wp2
    refine ⟨by simp, .inl ⟨_, _, rfl, run_takeDeferred hK, ?_⟩⟩
    refine ⟨_, ?_, ga⟩
    simp [results, Try.f15, go_sem, k0, k1, k2]

end Go.Proofs.Ytefkibflellfpaa
