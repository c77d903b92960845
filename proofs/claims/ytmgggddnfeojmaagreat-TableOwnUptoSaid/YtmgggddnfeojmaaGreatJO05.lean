/-
  Walks: pairs unpacked, by the program: the loop. Plain: entries: their order, how they are packed and unpacked. Nothing of the program.
-/
import Derived.Test.YtmgggddnfeojmaaGreatJO01
import Derived.Test.YtmgggddnfeojmaaGreatJO04
set_option linter.unusedSimpArgs false
set_option linter.unusedVariables false
namespace Go.Proofs.YtmgggddnfeojmaaGreat
open Go.RowKit Go.Shelf
attribute [local go_sem] Oper.semAt_some
/-- What unpacking answers: rows of the call's own. -/
def GotM (w : World) (p : List Pr × Int) (e : Ending) (w' : World) : Prop :=
  ∃ l A c, rds l = p.1 ∧ e = .returned (.tuple #[.slice A l.length c, .int .i64 p.2]) ∧ Mades w' w.heap.size l ∧ Prow w' w.heap.size A c l ∧ Below w.heap.size w w'
/-- The loop is done: the results stand. -/
structure DR (H : Nat) (w : World) (T : List Bp) (A' : Option Addr) (c' m : Nat) (W : World) : Prop where
  low : Below H w W
  r0 : Boxed W H 141 (.slice A' m c')
  r1 : Boxed W (H + 1) 30 (.int .i64 0)
  row : Prow W (H + 6) A' c' T
  rows : Mades W (H + 6) T
theorem DR.ends {H m : Nat} {w W : World} {T : List Bp} {A' : Option Addr} {c' : Nat} {p : List Pr × Int} (h : DR H w T A' c' m W) (hw : w.heap.size = H) (hm : T.length = m) (hK : W.heap[H + 4]? = some (.deferred (some []))) (hp : p = (rds T, 0)) :
    (W.putObj (H + 4) (.deferred none)).cell? ⟨H, 0, none⟩ = some (.slice A' m c') ∧ (W.putObj (H + 4) (.deferred none)).cell? ⟨H + 1, 0, none⟩ = some (.int .i64 0) ∧ GotM w p (.returned (.tuple #[.slice A' m c', .int .i64 0])) (W.putObj (H + 4) (.deferred none)) := by
  subst hm
  have hg := grownBy_putObj' W (H + 4) (.deferred none)
  have hr : ∀ r, some (H + 4) = some r → H + 4 ≤ r ∧ ∃ o : Obj, W.heap[r]? = some o ∧ o.isCells = false := fun r e => by injection e with e; subst e; exact ⟨Nat.le_refl _, _, hK, rfl⟩
  have hb : ∀ {b : Nat} {t : TypeId} {v : Value}, Boxed W b t v → b < H + 4 → Boxed (W.putObj (H + 4) (.deferred none)) b t v := fun k hlt => boxed_abide k hg hlt (fun r e => (hr r e).1)
  have ho : ∀ {B size n : Nat} {e : TypeId} {v : Value} {xs : List Value}, W.ownsRow B e size v n xs → (W.putObj (H + 4) (.deferred none)).ownsRow B e size v n xs := fun k => own_abide k hg (fun r e => (hr r e).2)
  subst hw
  subst hp
  refine ⟨(hb h.r0 (by omega)).cell, (hb h.r1 (by omega)).cell, T, A', c', rfl, rfl, fun q hq => ⟨own_mono (ho (h.rows q hq).1) (by omega), own_mono (ho (h.rows q hq).2) (by omega)⟩, own_mono (ho h.row) (by omega), h.low.grown hg (by have := h.low.size; omega) (fun k e => by have := (hr k e).1; omega)⟩
theorem StR.done {H : Nat} {w W : World} {A A' : Option Addr} {n c c' m : Nat} {s : Ks} {T : List Bp} (h : StR H w A n c s T W) (_hw : w.heap.size = H) (_hm : T.length = m) (hT : Prow W (H + 6) A' c' T) :
    DR H w T A' c' m ((W.setCell ⟨H, 0, none⟩ (.slice A' m c')).setCell ⟨H + 1, 0, none⟩ (.int .i64 0)) ∧ ((W.setCell ⟨H, 0, none⟩ (.slice A' m c')).setCell ⟨H + 1, 0, none⟩ (.int .i64 0)).heap[H + 4]? = W.heap[H + 4]? := by
  refine ⟨⟨?_, (h.r0.set _).other (by omega) _, (h.r1.other (by omega) _).set _, own_set (own_set hT (by omega)) (by omega), fun q hq => ⟨own_set (own_set (h.rows q hq).1 (by omega)) (by omega), own_set (own_set (h.rows q hq).2 (by omega)) (by omega)⟩⟩, ?_⟩
  · exact (h.low.setCell (p := ⟨H, 0, none⟩) (Nat.le_refl _) _).setCell (p := ⟨H + 1, 0, none⟩) (Nat.le_succ _) _
  · rw [Below.heap_setCell _ ⟨H + 1, 0, none⟩ _ (H + 4) (by simp), Below.heap_setCell _ ⟨H, 0, none⟩ _ (H + 4) (by simp)]
theorem StR.left {H : Nat} {w W : World} {A : Option Addr} {n c : Nat} {s : Ks} {T : List Bp} (h : StR H w A n c s T W) (er : Int) :
    XR H w ⟨s.ps, er, s.ka, s.kc, s.k⟩ ((W.setCell ⟨H, 0, none⟩ (.slice none 0 0)).setCell ⟨H + 1, 0, none⟩ (.int .i64 er)) ∧ Two (H + 4) W ((W.setCell ⟨H, 0, none⟩ (.slice none 0 0)).setCell ⟨H + 1, 0, none⟩ (.int .i64 er)) := by
  refine ⟨⟨?_, (h.r0.set _).other (by omega) _, (h.r1.other (by omega) _).set _⟩, ?_, ?_⟩
  · exact (h.low.setCell (p := ⟨H, 0, none⟩) (Nat.le_refl _) _).setCell (p := ⟨H + 1, 0, none⟩) (Nat.le_succ _) _
  · rw [Below.heap_setCell _ ⟨H + 1, 0, none⟩ _ (H + 4) (by simp), Below.heap_setCell _ ⟨H, 0, none⟩ _ (H + 4) (by simp)]
  · rw [Below.heap_setCell _ ⟨H + 1, 0, none⟩ _ (H + 4 + 1) (by simp), Below.heap_setCell _ ⟨H, 0, none⟩ _ (H + 4 + 1) (by simp only; omega)]
theorem cell_abide {W W' : World} {row : Option Nat} {x : Addr} {v : Value} (h : W.cell? x = some v) (hg : W.grownBy W' row) (hr : ∀ r, row = some r → ∃ o : Obj, W.heap[r]? = some o ∧ o.isCells = false) : W'.cell? x = some v := by
  have hlt := World.block_lt_of_cell? W _ h
  have hb : W'.heap[x.block]? = W.heap[x.block]? := hg.block _ hlt (fun e => by
    obtain ⟨o, ho, hc⟩ := hr x.block e.symm
    unfold World.cell? at h
    rw [ho] at h
    cases o <;> simp_all [Obj.isCells])
  unfold World.cell? at h ⊢
  rw [hb]
  exact h
theorem In.abide {W W' : World} {row : Option Nat} {A : Option Addr} {L : List Int} {n c : Nat} (h : In W A L n c) (hg : W.grownBy W' row) (hr : ∀ r, row = some r → ∃ o : Obj, W.heap[r]? = some o ∧ o.isCells = false) : In W' A L n c := by
  obtain ⟨h1, h2, h3, h4, h5⟩ := h
  refine ⟨h1, h2, h3, ?_, h5⟩
  rcases h4 with h4 | ⟨ad, e, h4⟩
  · exact .inl h4
  · exact .inr ⟨ad, e, fun j x hx => cell_abide (h4 j x hx) hg hr⟩
theorem str_start (w : World) (A : Option Addr) (n c : Nat) : StR w.heap.size w A n c ⟨[], 0, none, 0, []⟩ [] ((((w.alloc (.cells #[.slice none 0 0] 141)).alloc (.cells #[.int .i64 0] 30)).alloc (.cells #[.slice none 0 0] 141)).alloc (.cells #[.slice A n c] 42)) := by
  have b0 := Boxed.new w 141 (.slice none 0 0)
  have b1 := Boxed.new (w.alloc (.cells #[.slice none 0 0] 141)) 30 (.int .i64 0)
  have b2 := Boxed.new ((w.alloc (.cells #[.slice none 0 0] 141)).alloc (.cells #[.int .i64 0] 30)) 141 (.slice none 0 0)
  have b3 := Boxed.new (((w.alloc (.cells #[.slice none 0 0] 141)).alloc (.cells #[.int .i64 0] 30)).alloc (.cells #[.slice none 0 0] 141)) 42 (.slice A n c)
  simp only [World.size_alloc] at b1 b2 b3
  exact ⟨below_al (below_al (below_al (below_al (Below.refl _ _) _) _) _) _, ((b0.alloc _).alloc _).alloc _, (b1.alloc _).alloc _, ⟨none, 0, b2.alloc _, Prow.nil _ _⟩, b3, Mades.nil _ _, Row.nil _ _, Far.nil _, rfl⟩
/-- One pair more: what an append and the store behind it leave. -/
theorem StR.next {H E n c kc m c' c3 c4 q z : Nat} {w W₂ W3 W4 : World} {A ka A' A3 A4 : Option Addr} {ps : List Pr} {e0 : Int} {k V : List Int} {T : List Bp} {C : Obj} (h : StR H w A n c ⟨ps, e0, ka, kc, k⟩ T W₂) (hs : H + 6 ≤ W₂.heap.size) (hA : ∀ ad, A' = some ad → ad.block ≠ E) (hE : W₂.heap[E]? = some C) (hEH : H + 6 ≤ E) (p1 : Boxed W₂ (H + 2) 141 (.slice A' m c')) (p2 : Prow W₂ (H + 6) A' c' T) (hm : T.length = m)
    (r3 : Row W3 W₂.heap.size A3 c3 k) (b3 : Below W₂.heap.size W₂ W3) (r4 : Row W4 W3.heap.size A4 c4 V) (b4 : Below W3.heap.size W3 W4) (hq : k.length = q) (hz : V.length = z) :
    ∃ U : Bp, U.rd = (k, V) ∧ Prow (W4.alloc (.cells #[.slice A3 q c3, .slice A4 z c4] 144)) (H + 6) A' c' T ∧ H + 6 ≤ (W4.alloc (.cells #[.slice A3 q c3, .slice A4 z c4] 144)).heap.size ∧
      Lies (W4.alloc (.cells #[.slice A3 q c3, .slice A4 z c4] 144)) (some ⟨W4.heap.size, 0, none⟩) (pvals [U]) ∧
      ∀ A6 c6 W6, Prow W6 (H + 6) A6 c6 (T ++ [U]) → Below (H + 6) (W4.alloc (.cells #[.slice A3 q c3, .slice A4 z c4] 144)) W6 → (W4.alloc (.cells #[.slice A3 q c3, .slice A4 z c4] 144)).grownBy W6 (Value.slice A' m c').ownBlock →
        Boxed W6 (H + 2) 141 (.slice A' m c') ∧ W6.heap[E]? = some C ∧ (W6.setCell ⟨H + 1 + 1, 0, none⟩ (.slice A6 (m + 1) c6)).heap[E]? = some C ∧ Two (H + 4) W₂ (W6.setCell ⟨H + 1 + 1, 0, none⟩ (.slice A6 (m + 1) c6)) ∧ IR H w A n c ⟨ps ++ [(k, V)], 0, ka, kc, k⟩ (W6.setCell ⟨H + 1 + 1, 0, none⟩ (.slice A6 (m + 1) c6)) := by
  subst hm
  subst hq
  subst hz
  have hb34 : Below W₂.heap.size W₂ W4 := b3.trans (b4.mono b3.size)
  have hb45 : Below W₂.heap.size W₂ (W4.alloc (.cells #[.slice A3 k.length c3, .slice A4 V.length c4] 144)) := below_al hb34 _
  have hbl : Below W4.heap.size W4 (W4.alloc (.cells #[.slice A3 k.length c3, .slice A4 V.length c4] 144)) := below_new W4 _
  have hElt : E < W₂.heap.size := (Array.getElem?_eq_some_iff.1 hE).1
  have hn : (W4.alloc (.cells #[.slice A3 k.length c3, .slice A4 V.length c4] 144)).heap[W4.heap.size]? = some (.cells #[.slice A3 k.length c3, .slice A4 V.length c4] 144 (0, 0)) := heap_alloc_new W4 _
  have q5 : Prow (W4.alloc (.cells #[.slice A3 k.length c3, .slice A4 V.length c4] 144)) (H + 6) A' c' T := p2.kept hb45 (Nat.le_refl _)
  have k3 : Row (W4.alloc (.cells #[.slice A3 k.length c3, .slice A4 V.length c4] 144)) W₂.heap.size A3 c3 k := (r3.kept b4 (Nat.le_refl _)).kept hbl (Nat.le_refl _)
  have k4 : Row (W4.alloc (.cells #[.slice A3 k.length c3, .slice A4 V.length c4] 144)) W3.heap.size A4 c4 V := r4.kept hbl (Nat.le_refl _)
  refine ⟨⟨⟨A3, c3, k⟩, ⟨A4, c4, V⟩⟩, rfl, q5, Nat.le_trans hs hb45.size, .inr ⟨_, rfl, fun j u hu => ?_⟩, fun A6 c6 W6 h6 hb6 hg6 => ?_⟩
  · simp only [pvals, Bp.cells, List.flatMap_cons, List.flatMap_nil, List.append_nil] at hu
    match j, hu with
    | 0, hu =>
      simp at hu
      subst hu
      show World.cell? _ ⟨W4.heap.size, 0, none⟩ = _
      simp only [World.cell?, hn]
      rfl
    | 1, hu =>
      simp at hu
      subst hu
      show World.cell? _ ⟨W4.heap.size, 1, none⟩ = _
      simp only [World.cell?, hn]
      rfl
    | j + 2, hu => simp at hu
  have hbb : Below (H + 6) W₂ W6 := (hb45.mono hs).trans hb6
  have pb := boxed_below p1 hbb (by omega)
  have eE : W6.heap[E]? = some C := by
    rw [hg6.block E (Nat.lt_of_lt_of_le hElt hb45.size) (fun e => ?_), hb45.block E hElt, hE]
    cases A' with
    | none => simp [Value.ownBlock] at e
    | some ad => exact hA ad rfl (by simpa [Value.ownBlock] using e.symm)
  have go : ∀ {B : Nat} {D : Option Addr} {d : Nat} {M : List Int}, Row (W4.alloc (.cells #[.slice A3 k.length c3, .slice A4 V.length c4] 144)) B D d M → H + 6 ≤ B → Row (W6.setCell ⟨H + 1 + 1, 0, none⟩ (.slice A6 (T.length + 1) c6)) (H + 6) D d M := fun x hB => own_mono (own_set (x.besideP q5 hg6) (by omega)) hB
  have go2 : ∀ {D : Option Addr} {d : Nat} {M : List Int}, Row W₂ (H + 6) D d M → Row (W6.setCell ⟨H + 1 + 1, 0, none⟩ (.slice A6 (T.length + 1) c6)) (H + 6) D d M := fun x => go (x.kept hb45 (Nat.le_refl _)) (Nat.le_refl _)
  refine ⟨pb, eE, ?_, ⟨?_, ?_⟩, T ++ [⟨⟨A3, c3, k⟩, ⟨A4, c4, V⟩⟩], ?_⟩
  · rw [Below.heap_setCell _ ⟨H + 1 + 1, 0, none⟩ _ E (by simp only; omega), eE]
  · rw [Below.heap_setCell _ ⟨H + 1 + 1, 0, none⟩ _ (H + 4) (by simp only; omega), hbb.block _ (by omega)]
  · rw [Below.heap_setCell _ ⟨H + 1 + 1, 0, none⟩ _ (H + 4 + 1) (by simp only; omega), hbb.block _ (by omega)]
  refine ⟨?_, (boxed_below h.r0 hbb (by omega)).other (by omega) _, (boxed_below h.r1 hbb (by omega)).other (by omega) _, ⟨A6, c6, ?_, own_set h6 (by omega)⟩, (boxed_below h.box hbb (by omega)).other (by omega) _, ?_, go2 h.key, ?_, ?_⟩
  · exact (h.low.trans (hbb.mono (by omega))).setCell (p := ⟨H + 1 + 1, 0, none⟩) (by simp only; omega) _
  · rw [List.length_append]
    exact pb.set _
  · exact Mades.snoc (fun x hx => ⟨go2 (h.rows x hx).1, go2 (h.rows x hx).2⟩) (go k3 hs) (go k4 (Nat.le_trans hs b3.size))
  · intro x hx ad e
    rcases List.mem_append.1 hx with hx | hx
    · exact h.far x hx ad e
    · simp only [List.mem_singleton] at hx
      subst hx
      have h1 := (own_in h.key ad e).2
      refine ⟨fun bd e' => ?_, fun bd e' => ?_⟩
      · have := (own_in k3 bd e').1
        omega
      · have := (own_in k4 bd e').1
        have := b3.size
        omega
  · rw [rds_append, h.rd]
    rfl
/-- An operation that ran outside a round runs in it. -/
theorem wpOpIn_of {l n : Nat} {P : Program} {ops : Array Oper} {Q : Exit → Act → World → Prop} {i : Nat} {K K' : Act → World → Prop} {a : Act} {w : World} (hQ : ¬ LetsOut Q) (hd : ∀ (j : Nat) (o : Oper), ops[j]? = some o → ∀ c, o.op ≠ .defer c) (hK : ∀ a w, K a w → K' a w) (h : wpOp P ops Q i K a w) : wpOpIn (Fence.wide.inRound l) n P ops Q i K' a w := by
  unfold wpOp at h
  unfold wpOpIn
  cases ho : ops[i]? with
  | none =>
    simp only [ho] at h
    exact hK _ _ h
  | some o =>
    simp only [ho] at h ⊢
    by_cases hw : Region.wanted o (yielded ops a.tmps) = true
    · simp only [hw, if_true] at h ⊢
      have h := h.resolve_right (fun x => hQ x.2)
      refine ⟨fun _ _ => trivial, ?_⟩
      rw [Oper.semAt_eq _ _ _ (hd i o ho)]
      unfold Oper.wp at h
      generalize (execOp a.eval o).run P w = r at h ⊢
      cases r with
      | ok x w' =>
        cases x <;> simp only [Oper.upon, Oper.uponIn] at h ⊢
        case value v => exact hK _ _ h
        case skip => exact hK _ _ h
        case defer d => exact hK _ _ h
        case enter f args => exact ⟨(fun u => by cases u), ((callsIn_wide.2 h).inRound l).mono (fun e w'' he => by cases e <;> first | exact hK _ _ he | exact he)⟩
        case row row args => exact ⟨(fun u => by cases u), fun c cs _ => let ⟨v, w', r, s⟩ := h c cs; ⟨v, w', hK _ _ r, stepsIn_wide.2 s⟩⟩
      | halt x w' => cases x <;> simp only [Oper.upon, Oper.uponIn] at h ⊢ <;> exact h
    · simp only [hw] at h ⊢
      exact ⟨fun _ _ => trivial, hK _ _ h⟩
theorem wpAnyIn_of {l n : Nat} {P : Program} {md : Region.Mode} {ops : Array Oper} {Q : Exit → Act → World → Prop} (hQ : ¬ LetsOut Q) (hd : ∀ (j : Nat) (o : Oper), ops[j]? = some o → ∀ c, o.op ≠ .defer c) : ∀ (fuel : Nat) (listed : Array Bool) (a : Act) (w : World), wpAny P md ops Q fuel listed a w → wpAnyIn (Fence.wide.inRound l) n P md ops Q fuel listed a w
  | 0, _, _, _, h => h
  | fuel + 1, _, _, _, h => ⟨h.1, fun i hi => wpOpIn_of hQ hd (fun a w => wpAnyIn_of hQ hd fuel _ a w) (h.2 i hi)⟩
/-- A region in a round, walked as if outside. -/
theorem wpIn_region_heldR {l n : Nat} {P : Program} {id : Nat} {ops : Array Oper} {Q : Exit → Act → World → Prop} {a : Act} {w : World} (S : World → Prop) (hm : P.follows .mixedOrders = true) (hQ : ¬ LetsOut Q) (hd : ops.all (fun o => match o.op with | .defer _ => false | _ => true) = true)
    (h : wpAnyH P .any ops Q S ops.size (Array.replicate ops.size false) a w.drew) : (Code.region id ops true).wpIn (Fence.wide.inRound l) n P Q a w :=
  wpIn_region_any hm (wpAnyIn_of hQ (fun j o ho c e => by
    have h1 := Array.all_eq_true'.1 hd o (Array.mem_of_getElem? ho)
    simp only [e] at h1
    cases h1) _ _ _ _ (wpAny_of_held _ _ _ _ h))
set_option maxRecDepth 100000 in
set_option maxHeartbeats 8000000 in
theorem read_any (A : Option Addr) (L : List Int) (n c : Nat) (w : World) (h : In w A L n c) (hn : n ≤ 140737488355328) :
    Calls Tryz.prog 108 #[.slice A n c] w (GotM w (readP L)) := by
  have HI := Lib.hid h
  have HNN := Lib.hid hn
  clear h hn
  refine (callsIn_wide (n := 9)).1 ?_
  refine callsIn_of_wp_marks Tryz.func108 rfl trivial ?_ rfl
  simp only [Tryz.ntmps108, List.size_toArray, List.length_cons, List.length_nil, Nat.reduceAdd, Nat.reduceSub, Array.replicate_succ, Array.replicate_zero, List.push_toArray, List.append_toArray, List.nil_append, List.cons_append]
  gi_wp2_with (refine ⟨trivial, ?_⟩; gi_at_call 123; refine (callsIn_wide.2 (pairsOf_any _ _ _ _)).mono ?_; rintro e w' ⟨rfl, rfl⟩)
  obtain ⟨W0, hW0⟩ : ∃ W0, ((((w.alloc (.cells #[.slice none 0 0] 141)).alloc (.cells #[.int .i64 0] 30)).alloc (.cells #[.slice none 0 0] 141)).alloc (.cells #[.slice A n c] 42)) = W0 := ⟨_, rfl⟩
  have ST := str_start w A n c
  have hs4 : W0.heap.size = w.heap.size + 4 := by rw [← hW0]; simp only [World.size_alloc]
  rw [hW0] at ST ⊢
  obtain ⟨H, hH⟩ : ∃ H, w.heap.size = H := ⟨_, rfl⟩
  rw [hH] at ST hs4 ⊢
  have HOST := Lib.hid (hostR HI.out hH)
  refine range_told (σ := Ks) (gf := 130) (lb := #[.pointer (some ⟨H + 3, 0, none⟩)]) rfl (enters_of Tryz.func130 (by kernel_rfl) rfl)
    (IR H w A n c) (XR H w)
    (fun s X Y row ⟨T, k⟩ hg hr => ⟨T, k.abide hg hH (fun r e => by have := hr r e; rw [hs4] at this; exact this)⟩) (fun s X Y row k hg hr => k.abide hg hH (fun r e => by have := hr r e; rw [hs4] at this; exact this))
    (fun s args s' W => OnK A L n c s args s' W ∧ H + 6 ≤ W.heap.size) (fun s args s' W => OffK s args s' W ∧ H + 6 ≤ W.heap.size) ⟨[], 0, none, 0, []⟩ ⟨[], ST⟩ (fun s => readP L = (s.ps, 0)) (fun s => readP L = ([], s.e)) ?size ?on ?off ?iter ?done ?left
  case size =>
    rintro s args s' W (⟨⟨_, V, vA, vc, z, q, _, _, rfl, _⟩, _⟩ | ⟨⟨vA, vc, z, q, er, _, _, rfl⟩, _⟩) <;> rfl
  case iter =>
    intro R R' hR hRg hRs hyes hno W hi hr
    rw [hs4] at hRs hyes hno ⊢
    exact pairs_iter 7 (H + 5) (H + 6) (H + 3) A L n c (IR H w A n c) (XR H w) R R' HOST.out HNN.out hR hRg hRs (fun s args s' W ho hi hr => hyes s args s' W ⟨ho, hRs W hr⟩ hi hr) (fun s args s' W ho hi hr => hno s args s' W ⟨ho, hRs W hr⟩ hi hr) W hi hr
  case on =>
    rintro ⟨ps, e0, ka, kc, k⟩ args s' W ⟨⟨he0, V, vA, vc, z, q, rfl, hq, rfl, hV, hkb, hps, hq2, hz, hris, hcm, -⟩, hsz⟩ ⟨T, hst⟩
    unfold RoundOf
    rw [hs4]
    simp only at hq hkb hps hris hcm he0
    gi_wp2
    refine ⟨Two.below ((Below.refl (H + 6) W).alloc hsz _) (by omega), fun W₂ g2 hl => ?_⟩
    have hs2 : Hid (H + 6 ≤ W₂.heap.size) := Lib.hid (by have := g2.size; rw [World.size_alloc] at this; omega)
    have hr2 : ∀ r, some (H + 4 + 1) = some r → H + 4 ≤ r ∧ ∃ o : Obj, (W.alloc (.cells #[.slice ka q kc, .slice vA z vc] 144)).heap[r]? = some o ∧ o.isCells = false := fun r e => by injection e with e; subst e; exact ⟨by omega, hl⟩
    have st2 := Lib.hid ((hst.abide (World.grownBy_alloc W (.cells #[.slice ka q kc, .slice vA z vc] 144) none) hH (fun r e => by cases e)).abide g2 hH hr2)
    have v2 := Lib.hid ((hV.kept (below_new W (.cells #[.slice ka q kc, .slice vA z vc] 144))).abide g2 (fun r e => (hr2 r e).2))
    have e2 : Hid (W₂.heap[W.heap.size]? = some (.cells #[.slice ka q kc, .slice vA z vc] 144 (0, 0))) := Lib.hid (by
      rw [g2.block _ (by rw [World.size_alloc]; omega) (by intro e; injection e with e; omega)]
      exact heap_alloc_new W _)
    obtain ⟨E, hE⟩ : ∃ E, W.heap.size = E := ⟨_, rfl⟩
    have hEs : Hid (H + 6 ≤ E) := Lib.hid (hE ▸ hsz)
    rw [hE] at e2 ⊢
    have d0 : W₂.cell? ⟨E, 0, none⟩ = some (.slice ka q kc) := by simp [World.cell?, e2.out]
    have d1 : W₂.cell? ⟨E, 1, none⟩ = some (.slice vA z vc) := by simp [World.cell?, e2.out]
    obtain ⟨m, hm⟩ : ∃ m, T.length = m := ⟨_, rfl⟩
    obtain ⟨A', c', q1, q2⟩ := hst.pay
    have hA : ∀ ad, A' = some ad → ad.block ≠ E := fun ad e => by have := (own_in q2 ad e).2; omega
    have p1 : Boxed W₂ (H + 2) 141 (.slice A' T.length c') := boxed_abide (boxed_abide q1 (World.grownBy_alloc W (.cells #[.slice ka q kc, .slice vA z vc] 144) none) (B := H + 4) (by omega) (fun r e => by cases e)) g2 (B := H + 4) (by omega) (fun r e => (hr2 r e).1)
    have p2 : Prow W₂ (H + 6) A' c' T := own_abide (own_abide q2 (World.grownBy_alloc W (.cells #[.slice ka q kc, .slice vA z vc] 144) none) (fun r e => by cases e)) g2 (fun r e => (hr2 r e).2)
    rw [hm] at p1
    have d3 : W₂.cell? ⟨H + 1 + 1, 0, none⟩ = some (.slice A' m c') := p1.cell
    have hTm : (T.length + 1) * 48 ≤ 140737488355328 := by
      have h1 := hst.rd
      have h2 := rds_len T
      rw [h1] at h2
      simp only at h2
      omega
    have HTM := Lib.hid hTm
    have NX := Lib.hid (fun (W3 W4 : World) (A3 A4 : Option Addr) (c3 c4 : Nat) (r3 : Row W3 W₂.heap.size A3 c3 k) (b3 : Below W₂.heap.size W₂ W3) (r4 : Row W4 W3.heap.size A4 c4 V) (b4 : Below W3.heap.size W3 W4) => StR.next st2.out hs2.out hA e2.out hEs.out p1 p2 hm r3 b3 r4 b4 hq v2.out.len)
    have HM := Lib.hid hm
    have hrd : W₂.heap.size = W₂.drew.heap.size := rfl
    have C1 := Lib.hid (fun (W' : World) (hb : Below W₂.heap.size W₂ W') => clone_any ka k q kc W' hq (st2.out.key.lies.kept hb) (by rw [hq]; exact Nat.le_trans hq2 (by decide)))
    have C2 := Lib.hid (fun (W' : World) (hb : Below W₂.heap.size W₂ W') => clone_any vA V z vc W' v2.out.len (v2.out.bys.kept hb) (by rw [v2.out.len]; exact Nat.le_trans hz (by decide)))
    have HQL := Lib.hid hq
    have HZL := Lib.hid v2.out.len
    have HC : Hid (∀ W' : World, Below W₂.heap.size W₂ W' → W'.cell? ⟨H + 1 + 1, 0, none⟩ = some (.slice A' m c')) := Lib.hid (fun W' hb => by
      have h2 := hs2.out
      rw [← d3]
      exact World.cell?_of_block (hb.block (H + 2) (by omega)))
    have HE : Hid (∀ W' : World, W'.heap[E]? = W₂.heap[E]? → W'.cell? ⟨E, 0, none⟩ = some (.slice ka q kc) ∧ W'.cell? ⟨E, 1, none⟩ = some (.slice vA z vc)) := Lib.hid (fun W' hb => ⟨(World.cell?_of_block hb).trans d0, (World.cell?_of_block hb).trans d1⟩)
    have HB : Hid (∀ W' : World, Below W₂.heap.size W₂ W' → W'.heap[E]? = W₂.heap[E]?) := Lib.hid (fun W' hb => hb.block E (Array.getElem?_eq_some_iff.1 e2.out).1)
    clear hst g2 hr2 hl hV hq2 hz hps hq hsz p1 p2 q1 q2 hm hE hA hTm d3 hrd
    gi_wp2
    refine wpIn_region_heldR (fun W' => W'.cell? ⟨E, 0, none⟩ = some (.slice ka q kc) ∧ W'.cell? ⟨E, 1, none⟩ = some (.slice vA z vc)) (by kernel_rfl) (fun ⟨_, _, h⟩ => h) (by kernel_rfl) ?_
    have B0 : Hid (Below W₂.heap.size W₂ W₂.drew) := Lib.hid (Below.refl _ _).drew
    have s0 := HE.out _ (HB.out _ B0.out)
    refine wpAnyH_take (i := 1) (v := .pointer (some ⟨E, 0, none⟩)) rfl (by kernel_rfl) (by kernel_rfl) (by kernel_rfl) (fun _ _ _ h => h) (Or.inl ⟨by first | rfl | kernel_rfl, fun _ hS => by go_simp⟩) s0 ?_
    refine wpAnyH_take (i := 2) (v := .slice ka q kc) rfl (by kernel_rfl) (by kernel_rfl) (by kernel_rfl) (fun _ _ _ h => h) (Or.inl ⟨by first | rfl | kernel_rfl, fun _ hS => by have := hS.1; go_simp⟩) s0 ?_
    refine wpAnyH_take (i := 4) (v := .pointer (some ⟨E, 1, none⟩)) rfl (by kernel_rfl) (by kernel_rfl) (by kernel_rfl) (fun _ _ _ h => h) (Or.inl ⟨by first | rfl | kernel_rfl, fun _ hS => by go_simp⟩) s0 ?_
    refine wpAnyH_take (i := 5) (v := .slice vA z vc) rfl (by kernel_rfl) (by kernel_rfl) (by kernel_rfl) (fun _ _ _ h => h) (Or.inl ⟨by first | rfl | kernel_rfl, fun _ hS => by have := hS.2; go_simp⟩) s0 ?_
    refine wpAnyH_ready (rs := [0, 3]) (by kernel_rfl) (by simp) ?_
    refine AllReadyH.cons rfl (fun K hK => ?_) ?_
    · skip
      have := HC.out _ B0.out
      go_simp
      refine hK.out _ _ (HE.out _ (HB.out _ B0.out)) (fun _ => ?_)
      clear hK K this
      try simp only [Act.put, List.setIfInBounds_toArray, List.set_cons_zero, List.set_cons_succ]
      refine wpAnyH_ready (rs := [3]) (by kernel_rfl) (by simp) ?_
      refine AllReadyH.cons rfl (fun K hK => ?_) AllReadyH.nil
      go_simp
      go_at_call 42
      refine (C1.out _ B0.out).mono ?_
      rintro e3 W3 ⟨A3, c3, rfl, r3, b3⟩
      rw [HQL.out]
      have R3 : Hid (Row W3 W₂.heap.size A3 c3 k) := Lib.hid r3
      have B3 : Hid (Below W₂.heap.size W₂ W3) := Lib.hid (B0.out.trans (b3.mono B0.out.size))
      clear r3 b3
      refine hK.out _ _ (HE.out _ (HB.out _ B3.out)) (fun _ => ?_)
      clear hK K
      try simp only [Act.put, List.setIfInBounds_toArray, List.set_cons_zero, List.set_cons_succ]
      refine wpAnyH_ready (rs := [6]) (by kernel_rfl) (by simp) ?_
      refine AllReadyH.cons rfl (fun K hK => ?_) AllReadyH.nil
      go_simp
      go_at_call 42
      refine (C2.out _ B3.out).mono ?_
      rintro e4 W4 ⟨A4, c4, rfl, r4, b4⟩
      rw [HZL.out]
      have R4 := Lib.hid r4
      have D4 := Lib.hid b4
      have B4 : Hid (Below W₂.heap.size W₂ W4) := Lib.hid (B3.out.trans (b4.mono B3.out.size))
      have s4 := HE.out _ (HB.out _ B4.out)
      clear r4 b4
      refine hK.out _ _ s4 (fun _ => ?_)
      clear hK K
      try simp only [Act.put, List.setIfInBounds_toArray, List.set_cons_zero, List.set_cons_succ]
      refine wpAnyH_take (i := 7) (v := .agg #[.slice A3 q c3, .slice A4 z c4]) rfl (by kernel_rfl) (by kernel_rfl) (by kernel_rfl) (fun _ _ _ h => h) (Or.inl ⟨by first | rfl | kernel_rfl, fun _ hS => by go_simp⟩) s4 ?_
      try simp only [Act.put, List.setIfInBounds_toArray]
      refine wpAnyH_ready (rs := [8]) (by kernel_rfl) (by simp) ?_
      refine AllReadyH.cons rfl (fun K hK => ?_) AllReadyH.nil
      go_simp
      have B5 : Hid (Below W₂.heap.size W₂ (W4.alloc (.cells #[.slice A3 q c3, .slice A4 z c4] 144))) := Lib.hid (below_al B4.out _)
      refine hK.out _ _ (HE.out _ (HB.out _ B5.out)) (fun _ => ?_)
      clear hK K
      try simp only [Act.put, List.setIfInBounds_toArray, List.set_cons_zero, List.set_cons_succ]
      refine wpAnyH_ready (rs := [9]) (by kernel_rfl) (by simp) ?_
      refine AllReadyH.cons rfl (fun K hK => ?_) AllReadyH.nil
      obtain ⟨U, u1, u2, u3, u4, u5⟩ := NX.out W3 W4 A3 A4 c3 c4 R3.out B3.out R4.out D4.out
      have U5 := Lib.hid u5
      clear u5 u1
      refine step_append_prow _ (by rfl) (.tmp 14) (.tmp 22) (by rfl) (H + 6) A' c' T [U] (some ⟨W4.heap.size, 0, none⟩) m 1 1 (by first | rfl | simp [Act.eval]) (by first | rfl | simp [Act.eval]) HM.out rfl u2 u4 u3 (by simpa using HTM.out) ?_
      intro A6 c6 W6 h6 b6 g6
      obtain ⟨t1, t2, t3, t4, t5⟩ := U5.out A6 c6 W6 h6 b6 g6
      clear h6 b6 g6 u2 u3 u4
      have T1 := Lib.hid t1
      have T3 := Lib.hid t3
      have T4 := Lib.hid t4
      have T5 := Lib.hid t5
      have T2 := Lib.hid t2
      clear t1 t3 t4 t5 t2
      refine hK.out _ _ (HE.out _ (T2.out.trans e2.out.symm)) (fun _ => ?_)
      clear hK K
      try simp only [Act.put, List.setIfInBounds_toArray]
      refine wpAnyH_ready (rs := [10]) (by kernel_rfl) (by simp) ?_
      refine AllReadyH.cons rfl (fun K hK => ?_) AllReadyH.nil
      have f1 : W6.cell? ⟨H + 1 + 1, 0, none⟩ = some (.slice A' m c') := T1.out.cell
      have f2 : W6.frozen? ⟨H + 1 + 1, 0, none⟩ = false := T1.out.frozen
      go_simp
      refine hK.out _ _ (HE.out _ (T3.out.trans e2.out.symm)) (fun _ => ?_)
      refine wpAnyH_done (by kernel_rfl) ?_ _
      exact ⟨T4.out, T5.out⟩
    refine AllReadyH.cons rfl (fun K hK => ?_) AllReadyH.nil
    go_simp
    go_at_call 42
    refine (C1.out _ B0.out).mono ?_
    rintro e3 W3 ⟨A3, c3, rfl, r3, b3⟩
    rw [HQL.out]
    have R3 : Hid (Row W3 W₂.heap.size A3 c3 k) := Lib.hid r3
    have B3 : Hid (Below W₂.heap.size W₂ W3) := Lib.hid (B0.out.trans (b3.mono B0.out.size))
    clear r3 b3
    refine hK.out _ _ (HE.out _ (HB.out _ B3.out)) (fun _ => ?_)
    clear hK K
    try simp only [Act.put, List.setIfInBounds_toArray, List.set_cons_zero, List.set_cons_succ]
    refine wpAnyH_ready (rs := [0, 6]) (by kernel_rfl) (by simp) ?_
    refine AllReadyH.cons rfl (fun K hK => ?_) ?_
    · skip
      have := HC.out _ B3.out
      go_simp
      refine hK.out _ _ (HE.out _ (HB.out _ B3.out)) (fun _ => ?_)
      clear hK K this
      try simp only [Act.put, List.setIfInBounds_toArray, List.set_cons_zero, List.set_cons_succ]
      refine wpAnyH_ready (rs := [6]) (by kernel_rfl) (by simp) ?_
      refine AllReadyH.cons rfl (fun K hK => ?_) AllReadyH.nil
      go_simp
      go_at_call 42
      refine (C2.out _ B3.out).mono ?_
      rintro e4 W4 ⟨A4, c4, rfl, r4, b4⟩
      rw [HZL.out]
      have R4 := Lib.hid r4
      have D4 := Lib.hid b4
      have B4 : Hid (Below W₂.heap.size W₂ W4) := Lib.hid (B3.out.trans (b4.mono B3.out.size))
      have s4 := HE.out _ (HB.out _ B4.out)
      clear r4 b4
      refine hK.out _ _ s4 (fun _ => ?_)
      clear hK K
      try simp only [Act.put, List.setIfInBounds_toArray, List.set_cons_zero, List.set_cons_succ]
      refine wpAnyH_take (i := 7) (v := .agg #[.slice A3 q c3, .slice A4 z c4]) rfl (by kernel_rfl) (by kernel_rfl) (by kernel_rfl) (fun _ _ _ h => h) (Or.inl ⟨by first | rfl | kernel_rfl, fun _ hS => by go_simp⟩) s4 ?_
      try simp only [Act.put, List.setIfInBounds_toArray]
      refine wpAnyH_ready (rs := [8]) (by kernel_rfl) (by simp) ?_
      refine AllReadyH.cons rfl (fun K hK => ?_) AllReadyH.nil
      go_simp
      have B5 : Hid (Below W₂.heap.size W₂ (W4.alloc (.cells #[.slice A3 q c3, .slice A4 z c4] 144))) := Lib.hid (below_al B4.out _)
      refine hK.out _ _ (HE.out _ (HB.out _ B5.out)) (fun _ => ?_)
      clear hK K
      try simp only [Act.put, List.setIfInBounds_toArray, List.set_cons_zero, List.set_cons_succ]
      refine wpAnyH_ready (rs := [9]) (by kernel_rfl) (by simp) ?_
      refine AllReadyH.cons rfl (fun K hK => ?_) AllReadyH.nil
      obtain ⟨U, u1, u2, u3, u4, u5⟩ := NX.out W3 W4 A3 A4 c3 c4 R3.out B3.out R4.out D4.out
      have U5 := Lib.hid u5
      clear u5 u1
      refine step_append_prow _ (by rfl) (.tmp 14) (.tmp 22) (by rfl) (H + 6) A' c' T [U] (some ⟨W4.heap.size, 0, none⟩) m 1 1 (by first | rfl | simp [Act.eval]) (by first | rfl | simp [Act.eval]) HM.out rfl u2 u4 u3 (by simpa using HTM.out) ?_
      intro A6 c6 W6 h6 b6 g6
      obtain ⟨t1, t2, t3, t4, t5⟩ := U5.out A6 c6 W6 h6 b6 g6
      clear h6 b6 g6 u2 u3 u4
      have T1 := Lib.hid t1
      have T3 := Lib.hid t3
      have T4 := Lib.hid t4
      have T5 := Lib.hid t5
      have T2 := Lib.hid t2
      clear t1 t3 t4 t5 t2
      refine hK.out _ _ (HE.out _ (T2.out.trans e2.out.symm)) (fun _ => ?_)
      clear hK K
      try simp only [Act.put, List.setIfInBounds_toArray]
      refine wpAnyH_ready (rs := [10]) (by kernel_rfl) (by simp) ?_
      refine AllReadyH.cons rfl (fun K hK => ?_) AllReadyH.nil
      have f1 : W6.cell? ⟨H + 1 + 1, 0, none⟩ = some (.slice A' m c') := T1.out.cell
      have f2 : W6.frozen? ⟨H + 1 + 1, 0, none⟩ = false := T1.out.frozen
      go_simp
      refine hK.out _ _ (HE.out _ (T3.out.trans e2.out.symm)) (fun _ => ?_)
      refine wpAnyH_done (by kernel_rfl) ?_ _
      exact ⟨T4.out, T5.out⟩
    refine AllReadyH.cons rfl (fun K hK => ?_) AllReadyH.nil
    go_simp
    go_at_call 42
    refine (C2.out _ B3.out).mono ?_
    rintro e4 W4 ⟨A4, c4, rfl, r4, b4⟩
    rw [HZL.out]
    have R4 := Lib.hid r4
    have D4 := Lib.hid b4
    have B4 : Hid (Below W₂.heap.size W₂ W4) := Lib.hid (B3.out.trans (b4.mono B3.out.size))
    have s4 := HE.out _ (HB.out _ B4.out)
    clear r4 b4
    refine hK.out _ _ s4 (fun _ => ?_)
    clear hK K
    try simp only [Act.put, List.setIfInBounds_toArray, List.set_cons_zero, List.set_cons_succ]
    refine wpAnyH_take (i := 7) (v := .agg #[.slice A3 q c3, .slice A4 z c4]) rfl (by kernel_rfl) (by kernel_rfl) (by kernel_rfl) (fun _ _ _ h => h) (Or.inl ⟨by first | rfl | kernel_rfl, fun _ hS => by go_simp⟩) s4 ?_
    try simp only [Act.put, List.setIfInBounds_toArray]
    refine wpAnyH_ready (rs := [0, 8]) (by kernel_rfl) (by simp) ?_
    refine AllReadyH.cons rfl (fun K hK => ?_) ?_
    · skip
      have := HC.out _ B4.out
      go_simp
      refine hK.out _ _ (HE.out _ (HB.out _ B4.out)) (fun _ => ?_)
      clear hK K this
      try simp only [Act.put, List.setIfInBounds_toArray, List.set_cons_zero, List.set_cons_succ]
      refine wpAnyH_ready (rs := [8]) (by kernel_rfl) (by simp) ?_
      refine AllReadyH.cons rfl (fun K hK => ?_) AllReadyH.nil
      go_simp
      have B5 : Hid (Below W₂.heap.size W₂ (W4.alloc (.cells #[.slice A3 q c3, .slice A4 z c4] 144))) := Lib.hid (below_al B4.out _)
      refine hK.out _ _ (HE.out _ (HB.out _ B5.out)) (fun _ => ?_)
      clear hK K
      try simp only [Act.put, List.setIfInBounds_toArray, List.set_cons_zero, List.set_cons_succ]
      refine wpAnyH_ready (rs := [9]) (by kernel_rfl) (by simp) ?_
      refine AllReadyH.cons rfl (fun K hK => ?_) AllReadyH.nil
      obtain ⟨U, u1, u2, u3, u4, u5⟩ := NX.out W3 W4 A3 A4 c3 c4 R3.out B3.out R4.out D4.out
      have U5 := Lib.hid u5
      clear u5 u1
      refine step_append_prow _ (by rfl) (.tmp 14) (.tmp 22) (by rfl) (H + 6) A' c' T [U] (some ⟨W4.heap.size, 0, none⟩) m 1 1 (by first | rfl | simp [Act.eval]) (by first | rfl | simp [Act.eval]) HM.out rfl u2 u4 u3 (by simpa using HTM.out) ?_
      intro A6 c6 W6 h6 b6 g6
      obtain ⟨t1, t2, t3, t4, t5⟩ := U5.out A6 c6 W6 h6 b6 g6
      clear h6 b6 g6 u2 u3 u4
      have T1 := Lib.hid t1
      have T3 := Lib.hid t3
      have T4 := Lib.hid t4
      have T5 := Lib.hid t5
      have T2 := Lib.hid t2
      clear t1 t3 t4 t5 t2
      refine hK.out _ _ (HE.out _ (T2.out.trans e2.out.symm)) (fun _ => ?_)
      clear hK K
      try simp only [Act.put, List.setIfInBounds_toArray]
      refine wpAnyH_ready (rs := [10]) (by kernel_rfl) (by simp) ?_
      refine AllReadyH.cons rfl (fun K hK => ?_) AllReadyH.nil
      have f1 : W6.cell? ⟨H + 1 + 1, 0, none⟩ = some (.slice A' m c') := T1.out.cell
      have f2 : W6.frozen? ⟨H + 1 + 1, 0, none⟩ = false := T1.out.frozen
      go_simp
      refine hK.out _ _ (HE.out _ (T3.out.trans e2.out.symm)) (fun _ => ?_)
      refine wpAnyH_done (by kernel_rfl) ?_ _
      exact ⟨T4.out, T5.out⟩
    refine AllReadyH.cons rfl (fun K hK => ?_) AllReadyH.nil
    go_simp
    have B5 : Hid (Below W₂.heap.size W₂ (W4.alloc (.cells #[.slice A3 q c3, .slice A4 z c4] 144))) := Lib.hid (below_al B4.out _)
    refine hK.out _ _ (HE.out _ (HB.out _ B5.out)) (fun _ => ?_)
    clear hK K
    try simp only [Act.put, List.setIfInBounds_toArray, List.set_cons_zero, List.set_cons_succ]
    refine wpAnyH_ready (rs := [0]) (by kernel_rfl) (by simp) ?_
    refine AllReadyH.cons rfl (fun K hK => ?_) AllReadyH.nil
    have := HC.out _ B5.out
    go_simp
    refine hK.out _ _ (HE.out _ (HB.out _ B5.out)) (fun _ => ?_)
    clear hK K this
    try simp only [Act.put, List.setIfInBounds_toArray, List.set_cons_zero, List.set_cons_succ]
    refine wpAnyH_ready (rs := [9]) (by kernel_rfl) (by simp) ?_
    refine AllReadyH.cons rfl (fun K hK => ?_) AllReadyH.nil
    obtain ⟨U, u1, u2, u3, u4, u5⟩ := NX.out W3 W4 A3 A4 c3 c4 R3.out B3.out R4.out D4.out
    have U5 := Lib.hid u5
    clear u5 u1
    refine step_append_prow _ (by rfl) (.tmp 14) (.tmp 22) (by rfl) (H + 6) A' c' T [U] (some ⟨W4.heap.size, 0, none⟩) m 1 1 (by first | rfl | simp [Act.eval]) (by first | rfl | simp [Act.eval]) HM.out rfl u2 u4 u3 (by simpa using HTM.out) ?_
    intro A6 c6 W6 h6 b6 g6
    obtain ⟨t1, t2, t3, t4, t5⟩ := U5.out A6 c6 W6 h6 b6 g6
    clear h6 b6 g6 u2 u3 u4
    have T1 := Lib.hid t1
    have T3 := Lib.hid t3
    have T4 := Lib.hid t4
    have T5 := Lib.hid t5
    have T2 := Lib.hid t2
    clear t1 t3 t4 t5 t2
    refine hK.out _ _ (HE.out _ (T2.out.trans e2.out.symm)) (fun _ => ?_)
    clear hK K
    try simp only [Act.put, List.setIfInBounds_toArray]
    refine wpAnyH_ready (rs := [10]) (by kernel_rfl) (by simp) ?_
    refine AllReadyH.cons rfl (fun K hK => ?_) AllReadyH.nil
    have f1 : W6.cell? ⟨H + 1 + 1, 0, none⟩ = some (.slice A' m c') := T1.out.cell
    have f2 : W6.frozen? ⟨H + 1 + 1, 0, none⟩ = false := T1.out.frozen
    go_simp
    refine hK.out _ _ (HE.out _ (T3.out.trans e2.out.symm)) (fun _ => ?_)
    refine wpAnyH_done (by kernel_rfl) ?_ _
    exact ⟨T4.out, T5.out⟩
  case off =>
    rintro ⟨ps, e0, ka, kc, k⟩ args s' W ⟨⟨vA, vc, z, q, er, her, rfl, rfl⟩, hsz⟩ ⟨T, hst⟩
    unfold RoundOf
    rw [hs4]
    have he' : (er != 0) = true := by simpa using her
    gi_wp2
    refine ⟨Two.below ((Below.refl (H + 6) W).alloc hsz _) (by omega), fun W₂ g2 hl => ?_⟩
    have hr2 : ∀ r, some (H + 4 + 1) = some r → H + 4 ≤ r ∧ ∃ o : Obj, (W.alloc (.cells #[.slice ka q kc, .slice vA z vc] 144)).heap[r]? = some o ∧ o.isCells = false := fun r e => by injection e with e; subst e; exact ⟨by omega, hl⟩
    have st2 := (hst.abide (World.grownBy_alloc W (.cells #[.slice ka q kc, .slice vA z vc] 144) none) hH (fun r e => by cases e)).abide g2 hH hr2
    have d0 : W₂.cell? ⟨H, 0, none⟩ = some (.slice none 0 0) := st2.r0.cell
    have f0 : W₂.frozen? ⟨H, 0, none⟩ = false := st2.r0.frozen
    have d1 : W₂.cell? ⟨H + 1, 0, none⟩ = some (.int .i64 0) := st2.r1.cell
    have f1 : W₂.frozen? ⟨H + 1, 0, none⟩ = false := st2.r1.frozen
    clear hst g2 hr2 hl her
    gi_wp2
    obtain ⟨g1, g2⟩ := st2.left er
    exact ⟨g2, g1⟩
  case done =>
    rintro ⟨ps, e0, ka, kc, k⟩ W hd ⟨T, hst⟩ hK
    rw [hs4] at hK ⊢
    simp only at hd hst
    obtain ⟨m, hm⟩ : ∃ m, T.length = m := ⟨_, rfl⟩
    obtain ⟨A', c', p1, p2⟩ := hst.pay
    rw [hm] at p1
    have d2 : W.cell? ⟨H + 1 + 1, 0, none⟩ = some (.slice A' m c') := p1.cell
    have d0 : W.cell? ⟨H, 0, none⟩ = some (.slice none 0 0) := hst.r0.cell
    have f0 : W.frozen? ⟨H, 0, none⟩ = false := hst.r0.frozen
    have d1 : W.cell? ⟨H + 1, 0, none⟩ = some (.int .i64 0) := hst.r1.cell
    have f1 : W.frozen? ⟨H + 1, 0, none⟩ = false := hst.r1.frozen
    obtain ⟨g1, g2⟩ := hst.done hH hm p2
    have hK2 := g2.trans hK
    obtain ⟨k0, k1, ga⟩ := g1.ends (p := readP L) hH hm hK2 (by rw [hd]; have := hst.rd; simp only at this; rw [this])
    have HZ := Lib.hid (And.intro hK2 (And.intro k0 (And.intro k1 ga)))
    clear g1 g2 hK2 k0 k1 ga hd
    gi_wp2
    obtain ⟨hK2, k0, k1, ga⟩ := HZ.out
    refine ⟨by simp, .inl ⟨_, _, rfl, run_takeDeferred hK2, ?_⟩⟩
    refine ⟨_, ?_, ga⟩
    simp [results, Tryz.f108, go_sem, k0, k1]
  case left =>
    rintro ⟨ps, e0, ka, kc, k⟩ W hd hst hK
    rw [hs4] at hK ⊢
    simp only at hd
    have g := hst.abide (row := some (H + 4)) (grownBy_putObj' W (H + 4) (.deferred none)) hH (fun r e => by injection e with e; subst e; exact ⟨Nat.le_refl _, _, hK, rfl⟩)
    have k0 := g.r0.cell
    have k1 := g.r1.cell
    have ga : GotM w (readP L) (.returned (.tuple #[.slice none 0 0, .int .i64 e0])) (W.putObj (H + 4) (.deferred none)) := by
      rw [hd]
      exact ⟨[], none, 0, rfl, rfl, Mades.nil _ _, Prow.nil _ _, hH ▸ g.low⟩
    clear hd
    gi_wp2
    refine ⟨by simp, .inl ⟨_, _, rfl, run_takeDeferred hK, ?_⟩⟩
    refine ⟨_, ?_, ga⟩
    simp [results, Tryz.f108, go_sem, k0, k1]
end Go.Proofs.YtmgggddnfeojmaaGreat
namespace Go.Proofs.YtmgggddnfeojmaaGreat
/-- An entry, read: its key, its number, whether it is dead, its value. -/
abbrev Er := List Int × Int × Bool × List Int
/-- Below, at or above nought as x stands ahead of y, at its place, or behind it. -/
def ordE (x y : Er) : Int := if cmpL x.1 y.1 ≠ 0 then cmpL x.1 y.1 else if y.2.1 < x.2.1 then -1 else if x.2.1 < y.2.1 then 1 else 0
theorem cmpL_back (a b c : List Int) (h : cmpL a b = -1) (g : cmpL b c = -1) : cmpL a c = -1 := by
  have h1 := cmpL_flip a b
  have g1 := cmpL_flip b c
  have := cmpL_trans c b a (by omega) (by omega)
  have k := cmpL_flip c a
  omega
theorem ordE_lt {x y : Er} : ordE x y < 0 ↔ cmpL x.1 y.1 = -1 ∨ (x.1 = y.1 ∧ y.2.1 < x.2.1) := by
  unfold ordE
  have h3 := cmpL_three x.1 y.1
  by_cases h : cmpL x.1 y.1 = 0
  · rw [if_neg (by simpa using h)]
    have e := cmpL_eq _ _ h
    refine ⟨fun k => .inr ⟨e, ?_⟩, fun k => ?_⟩
    · split at k
      · assumption
      · split at k <;> omega
    · rcases k with k | ⟨-, k⟩
      · omega
      · rw [if_pos k]; omega
  · rw [if_pos h]
    refine ⟨fun k => .inl (by omega), fun k => ?_⟩
    rcases k with k | ⟨k, -⟩
    · omega
    · rw [k, cmpL_self] at h
      exact absurd rfl h
theorem ordE_zero {x y : Er} : ordE x y = 0 ↔ x.1 = y.1 ∧ x.2.1 = y.2.1 := by
  unfold ordE
  by_cases h : cmpL x.1 y.1 = 0
  · rw [if_neg (by simpa using h)]
    have e := cmpL_eq _ _ h
    refine ⟨fun k => ⟨e, ?_⟩, fun k => ?_⟩
    · split at k
      · omega
      · split at k <;> omega
    · rw [if_neg (by omega), if_neg (by omega)]
  · rw [if_pos h]
    refine ⟨fun k => absurd k h, fun k => ?_⟩
    rw [k.1, cmpL_self] at h
    exact absurd rfl h
theorem ordE_flip (x y : Er) : ordE y x = -ordE x y := by
  unfold ordE
  have h := cmpL_flip x.1 y.1
  by_cases e : cmpL x.1 y.1 = 0
  · rw [h, e]
    simp only [Int.neg_zero, ne_eq, not_true_eq_false, if_false]
    rcases Int.lt_trichotomy x.2.1 y.2.1 with k | k | k
    · simp [k, Int.not_lt.2 (Int.le_of_lt k)]
    · simp [k]
    · simp [k, Int.not_lt.2 (Int.le_of_lt k)]
  · rw [if_pos (by omega), if_pos (by omega), h]
theorem ordE_trans {x y z : Er} (h : ordE x y < 0) (g : ordE y z < 0) : ordE x z < 0 := by
  rw [ordE_lt] at h g ⊢
  rcases h with h | ⟨h1, h2⟩
  · rcases g with g | ⟨g1, g2⟩
    · exact .inl (cmpL_back _ _ _ h g)
    · exact .inl (g1 ▸ h)
  · rcases g with g | ⟨g1, g2⟩
    · exact .inl (h1 ▸ g)
    · exact .inr ⟨h1.trans g1, by omega⟩
theorem ordE_self (x : Er) : ordE x x = 0 := ordE_zero.2 ⟨rfl, rfl⟩
/-- May an entry be? -/
def GoodE (e : Er) : Prop := (1 ≤ e.1.length ∧ e.1.length ≤ 200) ∧ (1 ≤ e.2.1 ∧ e.2.1 ≤ 1099511627776) ∧ e.2.2.2.length ≤ 4096 ∧ (e.2.2.1 = true → e.2.2.2 = [])
instance (e : Er) : Decidable (GoodE e) := inferInstanceAs (Decidable (_ ∧ _ ∧ _ ∧ _))
/-- Entries in order, each of which may be, behind one. -/
def OrdF : Er → List Er → Prop
  | _, [] => True
  | p, e :: l => GoodE e ∧ ordE p e < 0 ∧ OrdF e l
def OrdL : List Er → Prop
  | [] => True
  | e :: l => GoodE e ∧ OrdF e l
instance decOrdF : ∀ (p : Er) (l : List Er), Decidable (OrdF p l)
  | _, [] => isTrue trivial
  | p, e :: l => by
    have := decOrdF e l
    exact inferInstanceAs (Decidable (_ ∧ _ ∧ _))
instance decOrdL : ∀ (l : List Er), Decidable (OrdL l)
  | [] => isTrue trivial
  | e :: l => by
    have := decOrdF e l
    exact inferInstanceAs (Decidable (_ ∧ _))
theorem OrdF.good {p : Er} : ∀ {l : List Er}, OrdF p l → ∀ e ∈ l, GoodE e
  | [], _, _, h => by cases h
  | x :: l, h, e, he => by
    rcases List.mem_cons.1 he with rfl | he
    · exact h.1
    · exact OrdF.good h.2.2 e he
theorem OrdL.good {l : List Er} (h : OrdL l) : ∀ e ∈ l, GoodE e := by
  cases l with
  | nil => exact fun e he => by cases he
  | cons x l =>
    intro e he
    rcases List.mem_cons.1 he with rfl | he
    · exact h.1
    · exact OrdF.good h.2 e he
theorem OrdF.above {p : Er} : ∀ {l : List Er}, OrdF p l → ∀ e ∈ l, ordE p e < 0
  | [], _, _, h => by cases h
  | x :: l, h, e, he => by
    rcases List.mem_cons.1 he with rfl | he
    · exact h.2.1
    · exact ordE_trans h.2.1 (OrdF.above h.2.2 e he)
theorem OrdF.tail {p e : Er} {l : List Er} (h : OrdF p (e :: l)) : OrdL (e :: l) := ⟨h.1, h.2.2⟩
theorem OrdL.tail {e : Er} {l : List Er} (h : OrdL (e :: l)) : OrdL l := by
  cases l with
  | nil => trivial
  | cons x l => exact OrdF.tail h.2
theorem OrdF.split : ∀ {p : Er} {l m : List Er}, OrdF p (l ++ m) → OrdF p l ∧ OrdL m
  | p, [], [], _ => ⟨trivial, trivial⟩
  | p, [], e :: m, h => ⟨trivial, OrdF.tail h⟩
  | p, x :: l, m, h => by
    have := OrdF.split (l := l) (m := m) h.2.2
    exact ⟨⟨h.1, h.2.1, this.1⟩, this.2⟩
theorem OrdL.split {l m : List Er} (h : OrdL (l ++ m)) : OrdL l ∧ OrdL m := by
  cases l with
  | nil => exact ⟨trivial, h⟩
  | cons x l =>
    have := OrdF.split h.2
    exact ⟨⟨h.1, this.1⟩, this.2⟩
theorem OrdL.take {l : List Er} (h : OrdL l) (n : Nat) : OrdL (l.take n) := (OrdL.split (m := l.drop n) (by rwa [List.take_append_drop])).1
theorem OrdL.drop {l : List Er} (h : OrdL l) (n : Nat) : OrdL (l.drop n) := (OrdL.split (l := l.take n) (by rwa [List.take_append_drop])).2
theorem OrdF.snoc : ∀ {p : Er} {l : List Er} {e : Er}, OrdF p l → GoodE e → (∀ x, (p :: l).getLast? = some x → ordE x e < 0) → OrdF p (l ++ [e])
  | p, [], e, _, h, g => ⟨h, g p rfl, trivial⟩
  | p, x :: l, e, h, k, g => ⟨h.1, h.2.1, OrdF.snoc h.2.2 k (fun y hy => g y (by rw [List.getLast?_cons_cons]; exact hy))⟩
theorem OrdL.snoc {l : List Er} {e : Er} (h : OrdL l) (k : GoodE e) (g : ∀ x, l.getLast? = some x → ordE x e < 0) : OrdL (l ++ [e]) := by
  cases l with
  | nil => exact ⟨k, trivial⟩
  | cons x l => exact ⟨h.1, OrdF.snoc h.2 k g⟩
/-- One more, as a walk over them sees it. -/
theorem ordL_step {l : List Er} {i : Nat} {e : Er} (he : l[i]? = some e) : OrdL (l.take (i + 1)) ↔ OrdL (l.take i) ∧ GoodE e ∧ ∀ p, 0 < i → l[i - 1]? = some p → ordE p e < 0 := by
  have hlt := (List.getElem?_eq_some_iff.1 he).1
  have e1 : l.take (i + 1) = l.take i ++ [e] := by rw [List.take_add_one, he]; rfl
  have hl : ∀ x, (l.take i).getLast? = some x ↔ 0 < i ∧ l[i - 1]? = some x := fun x => by
    rw [List.getLast?_eq_getElem?, List.length_take, Nat.min_eq_left (Nat.le_of_lt hlt), List.getElem?_take]
    by_cases h0 : 0 < i
    · rw [if_pos (by omega)]; simp [h0]
    · rw [if_neg (by omega)]; simp [h0]
  rw [e1]
  refine ⟨fun h => ?_, fun ⟨h, k, g⟩ => h.snoc k (fun x hx => g x ((hl x).1 hx).1 ((hl x).1 hx).2)⟩
  have h' := OrdL.split h
  refine ⟨h'.1, h.good e (by simp), fun p h0 hp => ?_⟩
  obtain ⟨j, rfl⟩ : ∃ j, i = j + 1 := ⟨i - 1, by omega⟩
  simp only [Nat.add_sub_cancel] at hp
  have e2 : l.take (j + 1) = l.take j ++ [p] := by rw [List.take_add_one, hp]; rfl
  rw [e2, List.append_assoc] at h
  exact (OrdL.split h).2.2.2.1
theorem ordL_sorted {l : List Er} (h : OrdL l) {i j : Nat} {x y : Er} (hij : i < j) (hx : l[i]? = some x) (hy : l[j]? = some y) : ordE x y < 0 := by
  have hi := (List.getElem?_eq_some_iff.1 hx).1
  have h1 := h.drop i
  rw [List.drop_eq_getElem_cons hi] at h1
  have e : l[i] = x := (List.getElem?_eq_some_iff.1 hx).2
  rw [e] at h1
  refine OrdF.above h1.2 y ?_
  obtain ⟨k, rfl⟩ : ∃ k, j = i + 1 + k := ⟨j - (i + 1), by omega⟩
  exact List.mem_of_getElem? (i := k) (by rw [List.getElem?_drop]; exact hy)
/-- How many, from the first on, have a key. -/
def runN (k : List Int) : List Er → Nat
  | [] => 0
  | e :: l => if e.1 = k then runN k l + 1 else 0
theorem runN_le (k : List Int) : ∀ l : List Er, runN k l ≤ l.length
  | [] => Nat.le_refl _
  | e :: l => by
    unfold runN
    split
    · have := runN_le k l
      simp only [List.length_cons]
      omega
    · simp
theorem runN_pos {e : Er} {l : List Er} : 1 ≤ runN e.1 (e :: l) := by
  unfold runN
  rw [if_pos rfl]
  omega
theorem runN_key (k : List Int) : ∀ (l : List Er), ∀ e ∈ l.take (runN k l), e.1 = k
  | [], e, h => by simp at h
  | x :: l, e, h => by
    unfold runN at h
    split at h
    · next hx =>
      rw [List.take_succ_cons] at h
      rcases List.mem_cons.1 h with rfl | h
      · exact hx
      · exact runN_key k l e h
    · simp at h
theorem runN_next (k : List Int) : ∀ (l : List Er) (e : Er), l[runN k l]? = some e → e.1 ≠ k
  | [], e, h => by simp [runN] at h
  | x :: l, e, h => by
    unfold runN at h
    split at h
    · exact runN_next k l e (by simpa using h)
    · next hx =>
      simp at h
      subst h
      exact hx
theorem runN_step {k : List Int} {l : List Er} {i : Nat} {e : Er} (h : runN k l = i + runN k (l.drop i)) (he : l[i]? = some e) : (e.1 ≠ k ∧ runN k l = i) ∨ (e.1 = k ∧ runN k l = i + 1 + runN k (l.drop (i + 1))) := by
  obtain ⟨hi, e1⟩ := List.getElem?_eq_some_iff.1 he
  rw [List.drop_eq_getElem_cons hi, e1, show ∀ m : List Er, runN k (e :: m) = if e.1 = k then runN k m + 1 else 0 from fun _ => rfl] at h
  by_cases g : e.1 = k
  · rw [if_pos g] at h
    exact .inr ⟨g, by omega⟩
  · rw [if_neg g] at h
    exact .inl ⟨g, by omega⟩
/-- What is told of an entry beside its key. -/
def headE (e : Er) : Int := 2 * e.2.1 + (if e.2.2.1 = true then 1 else 0)
def verE (e : Er) : List Int := digs (headE e) ++ (digs e.2.2.2.length ++ e.2.2.2)
def versE (l : List Er) : List Int := l.flatMap verE
theorem versE_append (l m : List Er) : versE (l ++ m) = versE l ++ versE m := by simp [versE]
/-- The keys, each once, with the number of its versions. -/
def pairsF : Nat → List Er → List Pr
  | 0, _ => []
  | _, [] => []
  | f + 1, e :: l => (e.1, digs (runN e.1 (e :: l) : Nat)) :: pairsF f ((e :: l).drop (runN e.1 (e :: l)))
def pairsE (l : List Er) : List Pr := pairsF l.length l
theorem pairsF_fuel : ∀ (f g : Nat) (l : List Er), l.length ≤ f → l.length ≤ g → pairsF f l = pairsF g l
  | 0, 0, _, _, _ => rfl
  | 0, g + 1, l, h, _ => by
    obtain rfl : l = [] := List.eq_nil_of_length_eq_zero (by omega)
    rfl
  | f + 1, 0, l, _, h => by
    obtain rfl : l = [] := List.eq_nil_of_length_eq_zero (by omega)
    rfl
  | f + 1, g + 1, [], _, _ => rfl
  | f + 1, g + 1, e :: l, hf, hg => by
    have h1 := runN_pos (e := e) (l := l)
    unfold pairsF
    rw [pairsF_fuel f g _ (by rw [List.length_drop]; simp only [List.length_cons] at hf ⊢; omega) (by rw [List.length_drop]; simp only [List.length_cons] at hg ⊢; omega)]
theorem pairsE_cons (e : Er) (l : List Er) : pairsE (e :: l) = (e.1, digs (runN e.1 (e :: l) : Nat)) :: pairsE ((e :: l).drop (runN e.1 (e :: l))) := by
  have h1 := runN_pos (e := e) (l := l)
  unfold pairsE
  conv => lhs; rw [List.length_cons]; unfold pairsF
  rw [pairsF_fuel l.length _ _ (by rw [List.length_drop]; simp only [List.length_cons]; omega) (Nat.le_refl _)]
/-- The payload of a block. -/
def packE (l : List Er) : List Int := digs (flatP [] (pairsE l)).length ++ (flatP [] (pairsE l) ++ versE l)
/-- The entry, but for its key, that stands at a place, and the place behind it; the error. -/
def verP (L : List Int) (a : Int) : (Int × Bool × List Int) × Int × Int :=
  if (uintP L a).2.2 ≠ 0 then ((0, false, []), 0, (uintP L a).2.2)
  else (((uintP L a).1 / 2, decide ((uintP L a).1 % 2 = 1), (bytesP L (uintP L a).2.1 4096).1), (bytesP L (uintP L a).2.1 4096).2)
/-- So many versions of a key, read one behind the other. -/
def versP (L : List Int) (k : List Int) : Nat → Int → List Er → Option (List Er × Int)
  | 0, a, acc => some (acc, a)
  | n + 1, a, acc => if (verP L a).2.2 ≠ 0 then none else versP L k n (verP L a).2.1 (acc ++ [(k, (verP L a).1)])
def unpF (L : List Int) : List Pr → Int → List Er → Option (List Er)
  | [], a, acc => if a = L.length ∧ OrdL acc then some acc else none
  | p :: ps, a, acc =>
    if (uintP p.2 0).2.2 ≠ 0 ∨ (uintP p.2 0).2.1 < p.2.length ∨ (uintP p.2 0).1 = 0 then none
    else match versP L p.1 (uintP p.2 0).1.toNat a acc with
      | none => none
      | some (acc', a') => unpF L ps a' acc'
/-- The entries that a payload tells. -/
def unpackE (L : List Int) : Option (List Er) :=
  if (bytesP L 0 L.length).2.2 ≠ 0 then none
  else if (readP (bytesP L 0 L.length).1).2 ≠ 0 then none
  else unpF L (readP (bytesP L 0 L.length).1).1 (bytesP L 0 L.length).2.1 []
theorem unpF_ord {L : List Int} : ∀ {ps : List Pr} {a : Int} {acc l : List Er}, unpF L ps a acc = some l → OrdL l
  | [], a, acc, l, h => by
    unfold unpF at h
    split at h
    · next k =>
      injection h with h
      rw [← h]
      exact k.2
    · cases h
  | p :: ps, a, acc, l, h => by
    unfold unpF at h
    split at h
    · cases h
    · split at h
      · cases h
      · exact unpF_ord h
theorem unpackE_ord {L : List Int} {l : List Er} (h : unpackE L = some l) : OrdL l := by
  unfold unpackE at h
  split at h
  · cases h
  · split at h
    · cases h
    · exact unpF_ord h
end Go.Proofs.YtmgggddnfeojmaaGreat
