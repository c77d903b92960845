/-
  A law for a loop over an iterator of the program's own whose rounds tell others' yields; a region that draws its order within a round, with a yield in it. A table gone over between two bounds: whoever asks; what is kept. A table gone over between two bounds: a round's facts.
-/
import Derived.Test.YtmgggddnfeojmaaGreatJO16
set_option linter.unusedSimpArgs false
set_option linter.unusedVariables false
namespace Go.Proofs.YtmgggddnfeojmaaGreat
open Go.RowKit
/-- What abides the loop's own two blocks. -/
def OwnAt {β : Type} (h : Nat) (I : β → World → Prop) : Prop := ∀ s W W' row, I s W → W.grownBy W' row → (∀ r, row = some r → (r = h ∨ r = h + 1) ∧ ∃ o : Obj, W.heap[r]? = some o ∧ o.isCells = false) → I s W'
theorem OwnAt.putObj {β : Type} {B : Nat} {I : β → World → Prop} (h : OwnAt B I) {s : β} {W : World} {l : Nat} {o : Obj} (o' : Obj) (hs : I s W) (hB : l = B ∨ l = B + 1) (hl : W.heap[l]? = some o) (ho : o.isCells = false) : I s (W.putObj l o') :=
  h s W _ (some l) hs (grownBy_putObj' W l o') (fun r e => by cases e; exact ⟨hB, o, hl, ho⟩)
theorem OwnAt.alloc {β : Type} {B : Nat} {I : β → World → Prop} (h : OwnAt B I) {s : β} {W : World} (o : Obj) (hs : I s W) : I s (W.alloc o) :=
  h s W _ none hs (World.grownBy_alloc W o none) (fun r e => by cases e)
theorem range_toldK {σ : Type} {P : Program} {g : Operand} {ps : Array Tmp} {assign body : Code} {Q : Exit → Act → World → Prop} {a : Act} {w : World} {n gf : Nat} {lb : Array Value}
    (hg : a.eval g = .func (.func gf) #[] lb) (eg : ∀ args w, (callFunc gf args).run P w = .ok (.enter gf args) w)
    (I Ix : σ → World → Prop) (J : σ → Code) (hI : OwnAt w.heap.size I) (hIx : OwnAt w.heap.size Ix)
    (On Off : σ → Array Value → σ → World → Prop) (s0 : σ) (h0 : I s0 w) (Done Left : σ → Prop)
    (hsz : ∀ s args s' W, On s args s' W ∨ Off s args s' W → args.size = ps.size)
    (hon : ∀ s args s' W, On s args s' W → I s W → w.heap.size + 2 ≤ W.heap.size → RoundOf w.heap.size (n - 1 - 1) P a.tmps ps assign body args W (fun W₂ => Goes w.heap.size W₂ (I s')))
    (hoff : ∀ s args s' W, Off s args s' W → I s W → w.heap.size + 2 ≤ W.heap.size → RoundOf w.heap.size (n - 1 - 1) P a.tmps ps assign body args W (fun W₂ => HaltsJ w.heap.size W₂ (J s') (Ix s')))
    (hiter : ∀ (R : World → Prop) (R' : σ → World → Prop), (∀ W W', R W → Two w.heap.size W W' → R W') → (∀ W, R W → w.heap.size + 2 ≤ W.heap.size ∧ (∃ L, W.heap[w.heap.size + 1]? = some (.loop L)) ∧ ∃ d, W.heap[w.heap.size]? = some (.deferred d)) →
      (∀ s args s' W, On s args s' W → I s W → R W → YieldAt Fence.wide (n - 1 - 1) P (w.heap.size + 1) args W fun e W' => e = .returned (.bool true) ∧ I s' W' ∧ R W') →
      (∀ s args s' W, Off s args s' W → I s W → R W → YieldAt Fence.wide (n - 1 - 1) P (w.heap.size + 1) args W fun e W' => e = .returned (.bool false) ∧ Ix s' W' ∧ R' s' W') →
      (∀ s W W', R' s W → Two w.heap.size W W' → R' s W') → (∀ s W, R' s W → w.heap.size + 2 ≤ W.heap.size ∧ (∃ L, W.heap[w.heap.size + 1]? = some (.loop L)) ∧ ∃ d, W.heap[w.heap.size]? = some (.deferred d)) →
      ∀ W, I s0 W → R W → CallsIn Fence.wide (n - 1) P gf (#[.func (.yield (w.heap.size + 1)) #[] #[]] ++ lb) W fun e W' => (∃ v, e = .returned v) ∧ ((∃ s, Done s ∧ I s W' ∧ R W') ∨ (∃ s, Left s ∧ Ix s W' ∧ R' s W')))
    (hdone : ∀ s W, Done s → I s W → W.heap[w.heap.size]? = some (.deferred (some [])) → Q .normal { a with defers := { target := .collected w.heap.size, args := #[] } :: a.defers } W)
    (hleft : ∀ s W, Left s → Ix s W → W.heap[w.heap.size]? = some (.deferred (some [])) → (J s).wpIn Fence.wide n P Q { a with defers := { target := .collected w.heap.size, args := #[] } :: a.defers } W) :
    (Code.rangeFunc g ps assign body).wpIn Fence.wide n P Q a w := by
  refine wpIn_rangeFunc fun fn _ => ?_
  obtain ⟨L, hL⟩ : ∃ L, recAt fn w.heap.size a.tmps ps assign body = L := ⟨_, rfl⟩
  obtain ⟨f2, f1⟩ := two_laid w (.deferred (some [])) (.loop (L .ready none))
  have fI : I s0 ((w.alloc (.deferred (some []))).alloc (.loop (L .ready none))) := hI.alloc _ (hI.alloc _ h0)
  generalize hW : (w.alloc (.deferred (some []))).alloc (.loop (L .ready none)) = W1 at f1 f2 fI
  have fE : (Instr.enterLoop fn a.tmps ps assign body none).run P w = .ok (w.heap.size + 1, [⟨.collected w.heap.size, #[]⟩]) W1 := by
    rw [← hW, ← hL]
    exact run_enterLoop_outer _ _ _ _ _
  refine ⟨_, _, _, _, _, _, _, _, fE, call_laid hg _ W1, fun _ _ => trivial, call_enters eg _ W1, fun h => by simp [Fence.wide] at h, ?_⟩
  have ended : ∀ (jump : Option Code) (W3 : World), W3.heap[w.heap.size + 1]? = some (.loop (L .busy none)) → (Instr.endRound (w.heap.size + 1) jump).run P W3 = .ok (.bool jump.isNone) (W3.putObj (w.heap.size + 1) (.loop (L (if jump.isNone then .ready else .done) jump))) := fun jump W3 k => by
    have := run_endRound (P := P) jump k
    rw [← hL] at this ⊢
    exact this
  have size2 : ∀ {W : World} {o : Obj}, W.heap[w.heap.size + 1]? = some o → w.heap.size + 2 ≤ W.heap.size := fun k => by
    have := (Array.getElem?_eq_some_iff.1 k).1
    omega
  refine (hiter (fun W => W.heap[w.heap.size + 1]? = some (.loop (L .ready none)) ∧ W.heap[w.heap.size]? = some (.deferred (some [])))
    (fun s W => W.heap[w.heap.size + 1]? = some (.loop (L .done (some (J s)))) ∧ W.heap[w.heap.size]? = some (.deferred (some [])))
    (fun W W' r t => ⟨t.2.trans r.1, t.1.trans r.2⟩) (fun W r => ⟨size2 r.1, ⟨_, r.1⟩, _, r.2⟩) ?_ ?_ (fun s W W' r t => ⟨t.2.trans r.1, t.1.trans r.2⟩) (fun s W r => ⟨size2 r.1, ⟨_, r.1⟩, _, r.2⟩) W1 fI ⟨f1, f2⟩).mono ?_
  · intro s args s' W ho hi r
    have hl := r.1
    rw [← hL] at hl
    refine yield_round hl (hsz s args s' W (.inl ho)) (hon s args s' W ho hi (size2 r.1)) fun W₂ e x W₃ q k1 k2 => ?_
    cases e with
    | normal =>
      obtain ⟨t, hi3⟩ := q
      have k3 := t.2.trans k1
      rw [hL] at k3
      refine ⟨_, _, ended none W₃ k3, rfl, hI.putObj _ hi3 (by omega) k3 rfl, World.putObj_heap_same (Array.getElem?_eq_some_iff.1 k3).1, ?_⟩
      rw [World.putObj_heap_other (by omega), t.1, k2, r.2]
    | ret => exact q.elim
    | exit id => exact q.elim
    | goto t => exact q.elim
    | panic ch => exact q.elim
    | outgrown => exact q.elim
  · intro s args s' W ho hi r
    have hl := r.1
    rw [← hL] at hl
    refine yield_round hl (hsz s args s' W (.inr ho)) (hoff s args s' W ho hi (size2 r.1)) fun W₂ e x W₃ q k1 k2 => ?_
    cases e with
    | ret =>
      obtain ⟨hj, t, hi3⟩ := q
      have k3 := t.2.trans k1
      rw [hL] at k3
      refine ⟨_, _, ended (some .ret) W₃ k3, rfl, hIx.putObj _ hi3 (by omega) k3 rfl, ?_, ?_⟩
      · rw [hj]
        exact World.putObj_heap_same (Array.getElem?_eq_some_iff.1 k3).1
      · rw [World.putObj_heap_other (by omega), t.1, k2, r.2]
    | exit id =>
      obtain ⟨hj, t, hi3⟩ := q
      have k3 := t.2.trans k1
      rw [hL] at k3
      refine ⟨_, _, ended (some (.exit id)) W₃ k3, rfl, hIx.putObj _ hi3 (by omega) k3 rfl, ?_, ?_⟩
      · rw [hj]
        exact World.putObj_heap_same (Array.getElem?_eq_some_iff.1 k3).1
      · rw [World.putObj_heap_other (by omega), t.1, k2, r.2]
    | normal => exact q.elim
    | goto t => exact q.elim
    | panic ch => exact q.elim
    | outgrown => exact q.elim
  · rintro e W2 ⟨⟨v, rfl⟩, (⟨s, hd, hi, k1, k2⟩ | ⟨s, hd, hi, k1, k2⟩)⟩
    · have h := run_endLoop (P := P) k1 (by rw [← hL]; simp [recAt])
      have e : (L .ready none).pending = none := by rw [← hL]; rfl
      rw [e] at h
      exact ⟨none, _, h, hdone s _ hd (hI.putObj _ hi (by omega) k1 rfl) ((World.putObj_heap_other (by omega)).trans k2)⟩
    · have h := run_endLoop (P := P) k1 (by rw [← hL]; simp [recAt])
      have e : (L .done (some (J s))).pending = some (J s) := by rw [← hL]; rfl
      rw [e] at h
      exact ⟨some (J s), _, h, hleft s _ hd (hIx.putObj _ hi (by omega) k1 rfl) ((World.putObj_heap_other (by omega)).trans k2)⟩
theorem roundIn_any {l n m : Nat} {P : Program} {L : Nat} {f : FuncId} {tmps : Array Value} {assign body : Code} {w : World} {R : Ending → World → Prop} (h : RoundIn Fence.wide n P L f tmps assign body w R) : RoundIn (Fence.wide.inRound l) m P L f tmps assign body w R :=
  ⟨trivial, fun c cs _ => h.2 c cs (fun d hd => by cases hd)⟩
theorem YieldAt.any {n m : Nat} {P : Program} {L : Nat} {args : Array Value} {w : World} {R : Ending → World → Prop} (h : YieldAt Fence.wide n P L args w R) : YieldAt Fence.wide m P L args w R := by
  obtain ⟨fn, tmps, assign, body, hy, hY⟩ := h
  exact ⟨fn, tmps, assign, body, hy, trivial, fun c cs _ => hY.2 c cs (fun d hd => by cases hd)⟩
theorem YieldAt.mono {n : Nat} {P : Program} {L : Nat} {args : Array Value} {w : World} {R R' : Ending → World → Prop} (h : YieldAt Fence.wide n P L args w R) (k : ∀ e w', R e w' → R' e w') : YieldAt Fence.wide n P L args w R' := by
  obtain ⟨fn, tmps, assign, body, hy, hY⟩ := h
  exact ⟨fn, tmps, assign, body, hy, hY.mono k⟩
section
variable {l n : Nat} {P : Program} {ops : Array Oper} {Q : Exit → Act → World → Prop} {md : Region.Mode} {S : World → Prop}
theorem stepJ_yields {i : Nat} {o : Oper} {v : Value} {a : Act} (hi : ops[i]? = some o) (hd : ∀ c, o.op ≠ .defer c) (hy : YieldsIf P ops S o v a)
    {K : Act → World → Prop} {w : World} (hS : S w) (h : K (a.put o.dst v) w) : wpOpIn (Fence.wide.inRound l) n P ops Q i K a w := by
  unfold wpOpIn
  rw [hi]
  simp only
  rcases hy with ⟨hw, hv⟩ | ⟨hw, rfl⟩
  · rw [if_pos hw]
    refine ⟨fun _ _ => trivial, ?_⟩
    rw [Oper.semAt_eq _ _ _ hd, hv w hS]
    exact h
  · rw [if_neg (by rw [hw]; decide)]
    exact ⟨fun _ _ => trivial, h⟩
theorem stepJ_put {j : Nat} {oi oj : Oper} {v : Value} (hj : ops[j]? = some oj) (hd : ∀ c, oj.op ≠ .defer c) (hap : oi.apart ops oj = true)
    (hsi : ∀ cs b, oi.op ≠ .select cs b) (hsj : ∀ cs b, oj.op ≠ .select cs b)
    (hQ : ∀ c a w, Q (.panic c) (a.put oi.dst v) w → Q (.panic c) a w) {K : Act → World → Prop} {a : Act} {w : World}
    (hy : YieldsIf P ops S oi v a) (h : wpOpIn (Fence.wide.inRound l) n P ops Q j K (a.put oi.dst v) w) :
    wpOpIn (Fence.wide.inRound l) n P ops Q j (fun a' w' => YieldsIf P ops S oi v a' ∧ K (a'.put oi.dst v) w') a w := by
  obtain ⟨h1, h2, h3⟩ := Oper.apart_spec hap
  have keep : ∀ (b : Act), YieldsIf P ops S oi v b → ∀ u, YieldsIf P ops S oi v (b.put oj.dst u) := fun b hb u =>
    hb.of_same (execOp_put oi hsi b oj.dst u h3) (wanted_put oi b oj.dst u h3)
  have fin : ∀ (u : Value) (W : World), K ((a.put oi.dst v).put oj.dst u) W → YieldsIf P ops S oi v (a.put oj.dst u) ∧ K ((a.put oj.dst u).put oi.dst v) W := fun u W hk => ⟨keep a hy u, by rw [← Act.put_comm a v u h2]; exact hk⟩
  unfold wpOpIn at h ⊢
  rw [hj] at h ⊢
  simp only at h ⊢
  rw [wanted_put oj a oi.dst v h1] at h
  by_cases hw : Region.wanted oj (yielded ops a.tmps) = true
  · rw [if_pos hw] at h ⊢
    refine ⟨fun _ _ => trivial, ?_⟩
    have h := h.2
    rw [Oper.semAt_eq _ _ _ hd, execOp_put oj hsj a oi.dst v h1] at h
    rw [Oper.semAt_eq _ _ _ hd]
    generalize (execOp a.eval oj).run P w = r at h ⊢
    cases r with
    | ok x w' =>
      cases x <;> simp only [Oper.uponIn] at h ⊢
      case value u => exact fin u _ h
      case skip => exact fin _ _ h
      case defer d =>
        refine ⟨keep { a with defers := d :: a.defers } (hy.of_same rfl rfl) undef, ?_⟩
        rw [← Act.put_comm _ v undef h2, ← Act.put_defers]
        exact h
      case enter f args =>
        refine ⟨h.1, h.2.mono fun e w'' he => ?_⟩
        cases e with
        | returned u => exact fin u _ he
        | panicked c => exact hQ _ _ _ he
        | outgrown => exact he
      case row row args => exact ⟨h.1, h.2.mono fun u w'' he => fin u _ he⟩
      case round l f tmps assign body =>
        refine ⟨h.1, h.2.mono fun e w'' he => ?_⟩
        cases e with
        | returned u => exact fin u _ he
        | panicked c => exact hQ _ _ _ he
        | outgrown => exact he
    | halt x w' =>
      cases x <;> simp only [Oper.uponIn] at h ⊢
      case panic u => exact hQ _ _ _ h
  · rw [if_neg hw] at h ⊢
    exact ⟨fun _ _ => trivial, fin _ _ h.2⟩
/-- A region within a round, whatever order is drawn, S holding all along. -/
def anyJ (l n : Nat) (P : Program) (md : Region.Mode) (ops : Array Oper) (Q : Exit → Act → World → Prop) (S : World → Prop) : Nat → Array Bool → Act → World → Prop
  | 0, listed, a, w => Region.ready md ops listed = [] ∧ Q .normal a w
  | fuel + 1, listed, a, w =>
    (Region.ready md ops listed = [] → Q .normal a w) ∧
    ∀ i ∈ Region.ready md ops listed, wpOpIn (Fence.wide.inRound l) n P ops Q i (fun a' w' => S w' ∧ anyJ l n P md ops Q S fuel (listed.setIfInBounds i true) a' w') a w
theorem anyJ_in : ∀ (fuel : Nat) (listed : Array Bool) (a : Act) (w : World), anyJ l n P md ops Q S fuel listed a w → wpAnyIn (Fence.wide.inRound l) n P md ops Q fuel listed a w
  | 0, _, _, _, h => h
  | fuel + 1, _, _, _, h => ⟨h.1, fun i hi => wpOpIn_mono (fun a' w' h' => anyJ_in fuel _ a' w' h'.2) (h.2 i hi)⟩
theorem anyJ_start {id : Nat} {a : Act} {w : World} (S : World → Prop) (hm : P.follows .mixedOrders = true) (h : anyJ l n P .any ops Q S ops.size (Array.replicate ops.size false) a w.drew) : (Code.region id ops true).wpIn (Fence.wide.inRound l) n P Q a w :=
  wpIn_region_any hm (anyJ_in _ _ _ _ h)
theorem anyJ_first {i : Nat} {oi : Oper} {v : Value} (hi : ops[i]? = some oi) (hd : ∀ (j : Nat) (o : Oper), ops[j]? = some o → ∀ c, o.op ≠ .defer c) (hsel : ∀ (j : Nat) (o : Oper) cs b, ops[j]? = some o → o.op ≠ .select cs b)
    (hQ : ∀ c a w, Q (.panic c) (a.put oi.dst v) w → Q (.panic c) a w) :
    ∀ (fuel : Nat) (listed : Array Bool) (a : Act) (w : World),
      (∀ j oj, ops[j]? = some oj → j ≠ i → listed.getD j true = false → (∀ e ∈ oj.after, Region.binds md e = true → e.on ≠ i) → oi.apart ops oj = true) →
      i ∈ Region.ready md ops listed → YieldsIf P ops S oi v a → S w →
      anyJ l n P md ops Q S fuel (listed.setIfInBounds i true) (a.put oi.dst v) w → anyJ l n P md ops Q S (fuel + 1) listed a w
  | 0, listed, a, w, _, hr, hy, hS, H => by
    refine ⟨fun h => (by rw [h] at hr; cases hr), fun j hj => ?_⟩
    by_cases hji : j = i
    · subst hji; exact stepJ_yields hi (hd _ _ hi) hy hS ⟨hS, H⟩
    · have := ready_mono hj hji
      rw [H.1] at this
      cases this
  | fuel + 1, listed, a, w, hfree, hr, hy, hS, H => by
    refine ⟨fun h => (by rw [h] at hr; cases hr), fun j hj => ?_⟩
    by_cases hji : j = i
    · subst hji; exact stepJ_yields hi (hd _ _ hi) hy hS ⟨hS, H⟩
    · have h1 := H.2 j (ready_mono hj hji)
      obtain ⟨hjun, oj, hoj, hall⟩ := mem_ready.1 hj
      have hnot : ∀ e ∈ oj.after, Region.binds md e = true → e.on ≠ i := fun e he hb heq => by
        have h1 := hall e he hb
        have h0 := (mem_ready.1 hr).1
        rw [heq] at h1
        rcases Nat.lt_or_ge i listed.size with h' | h'
        · simp [h'] at h0 h1; rw [h0] at h1; cases h1
        · simp [Array.getElem?_eq_none h'] at h1
      have h2 := stepJ_put hoj (hd _ _ hoj) (hfree j oj hoj hji hjun hnot) (fun cs b => hsel i oi cs b hi) (fun cs b => hsel j oj cs b hoj) hQ hy h1
      have hfree' : ∀ k ok, ops[k]? = some ok → k ≠ i → (listed.setIfInBounds j true).getD k true = false →
          (∀ e ∈ ok.after, Region.binds md e = true → e.on ≠ i) → oi.apart ops ok = true := fun k ok hk hki hun hno => by
        refine hfree k ok hk hki ?_ hno
        by_cases hjk : j = k
        · subst hjk; exact hjun
        · rw [getD_set_ne true hjk] at hun; exact hun
      refine wpOpIn_mono (fun a' w' h3 => ⟨h3.2.1, anyJ_first hi hd hsel hQ fuel (listed.setIfInBounds j true) a' w' hfree' (ready_mono hr (Ne.symm hji)) h3.1 h3.2.1 ?_⟩) h2
      rw [Array.setIfInBounds_comm _ _ hji]
      exact h3.2.2
def noDefer (ops : Array Oper) : Bool := ops.all (fun o => match o.op with | .defer _ => false | _ => true)
theorem noDefer_spec (h : noDefer ops = true) : ∀ (j : Nat) (o : Oper), ops[j]? = some o → ∀ c, o.op ≠ .defer c := fun j o ho c e => by
  have h1 := Array.all_eq_true'.1 h o (Array.mem_of_getElem? ho)
  simp only [e] at h1
  cases h1
theorem anyJ_take {i : Nat} {oi : Oper} {v : Value} {fuel : Nat} {listed : Array Bool} {a : Act} {w : World} (hi : ops[i]? = some oi) (hd : noDefer ops = true)
    (hs : Region.noSelect ops = true) (hf : Region.free md ops listed i = true) (hr : (Region.ready md ops listed).contains i = true)
    (hQ : ∀ c a w, Q (.panic c) (a.put oi.dst v) w → Q (.panic c) a w) (hy : YieldsIf P ops S oi v a) (hS : S w)
    (h : anyJ l n P md ops Q S fuel (listed.setIfInBounds i true) (a.put oi.dst v) w) : anyJ l n P md ops Q S (fuel + 1) listed a w :=
  anyJ_first hi (noDefer_spec hd) (Region.noSelect_spec hs) hQ fuel listed a w (Region.free_spec hi hf) (by simpa using hr) hy hS h
theorem anyJ_done {listed : Array Bool} {a : Act} {w : World} (hr : Region.ready md ops listed = []) (h : Q .normal a w) : ∀ fuel, anyJ l n P md ops Q S fuel listed a w
  | 0 => ⟨hr, h⟩
  | _ + 1 => ⟨fun _ => h, by rw [hr]; simp⟩
/-- One alone may come up: what runs outside runs here. -/
theorem anyJ_one {i : Nat} {o : Oper} {fuel : Nat} {listed : Array Bool} {a : Act} {w : World} (hQ : ¬ LetsOut Q) (hd : noDefer ops = true) (hr : Region.ready md ops listed = [i]) (ho : ops[i]? = some o) (hw : Region.wanted o (yielded ops a.tmps) = true)
    (h : ∀ K : Act → World → Prop, Hid (∀ b W, S W → anyJ l n P md ops Q S fuel (listed.setIfInBounds i true) b W → K b W) → Oper.wp P o a w K Q) : anyJ l n P md ops Q S (fuel + 1) listed a w := by
  refine ⟨fun h0 => (by rw [hr] at h0; cases h0), fun j hj => ?_⟩
  rw [hr, List.mem_singleton] at hj
  subst hj
  refine wpOpIn_of (K := fun a' w' => S w' ∧ anyJ l n P md ops Q S fuel (listed.setIfInBounds j true) a' w') hQ (noDefer_spec hd) (fun _ _ h => h) ?_
  unfold wpOp
  rw [ho]
  simp only
  rw [if_pos hw]
  exact .inl (h _ (Lib.hid fun b W h1 h2 => ⟨h1, h2⟩))
/-- One alone may come up, a yield. -/
theorem anyJ_yield {i N L : Nat} {o : Oper} {args : Array Value} {R : Ending → World → Prop} {fuel : Nat} {listed : Array Bool} {a : Act} {w : World} (hd : noDefer ops = true) (hr : Region.ready md ops listed = [i]) (ho : ops[i]? = some o) (hw : Region.wanted o (yielded ops a.tmps) = true)
    (hY : YieldAt Fence.wide N P L args w R) (he : (execOp a.eval o).run P w = (Instr.yield L args).run P w)
    (h : ∀ e W, R e W → ∃ v, e = .returned v ∧ S W ∧ anyJ l n P md ops Q S fuel (listed.setIfInBounds i true) (a.put o.dst v) W) : anyJ l n P md ops Q S (fuel + 1) listed a w := by
  obtain ⟨fn, tmps, assign, body, hy, hY⟩ := hY
  refine ⟨fun h0 => (by rw [hr] at h0; cases h0), fun j hj => ?_⟩
  rw [hr, List.mem_singleton] at hj
  subst hj
  unfold wpOpIn
  rw [ho]
  simp only
  rw [if_pos hw]
  refine ⟨fun _ _ => trivial, ?_⟩
  rw [Oper.semAt_eq _ _ _ (noDefer_spec hd _ _ ho), he, hy]
  refine ⟨(fun u => by cases u), (roundIn_any hY).mono (fun e W r => ?_)⟩
  obtain ⟨v, rfl, h1, h2⟩ := h e W r
  exact ⟨h1, h2⟩
end
end Go.Proofs.YtmgggddnfeojmaaGreat
namespace Go.Proofs.YtmgggddnfeojmaaGreat
open Go.RowKit
theorem goF_good {t : Tb} {e : Er} : ∀ (f i : Nat) (x : Er), x ∈ (goF t e f i).1 → GoodE x
  | 0, _, x, h => by cases h
  | f + 1, i, x, h => by
    cases hq : blockP t i with
    | none =>
      rw [goF_bad hq] at h
      cases h
    | some l =>
      rw [goF_ok hq] at h
      rcases List.mem_append.1 h with h | h
      · exact (blockP_ord hq).good x (List.mem_of_mem_drop h)
      · exact goF_good f (i + 1) x h
theorem goP_good {t : Tb} {e x : Er} {j : Nat} (h : (goP t e).1[j]? = some x) : GoodE x := goF_good _ _ x (List.mem_of_getElem? h)
/-- Up to a place all are below the bound. -/
def Und (M : List Er) (hi : List Int) (j : Nat) : Prop := ∀ i, i < j → ∀ e, M[i]? = some e → underE hi e = true
theorem Und.next {M : List Er} {hi : List Int} {j : Nat} {e : Er} (h : Und M hi j) (hj : M[j]? = some e) (hu : underE hi e = true) : Und M hi (j + 1) := fun i hi' y hy => by
  rcases Nat.lt_or_ge i j with g | g
  · exact h i g y hy
  · obtain rfl : i = j := by omega
    rw [hj] at hy
    injection hy with hy
    exact hy ▸ hu
theorem und_get {hi : List Int} : ∀ {M : List Er} {j : Nat} {e : Er}, Und M hi (j + 1) → M[j]? = some e → (M.takeWhile (underE hi))[j]? = some e
  | [], j, e, _, h => by simp at h
  | y :: M, 0, e, hu, h => by
    have := hu 0 (by omega) y rfl
    rw [List.takeWhile_cons_of_pos this]
    exact h
  | y :: M, j + 1, e, hu, h => by
    have := hu 0 (by omega) y rfl
    rw [List.takeWhile_cons_of_pos this]
    exact und_get (M := M) (fun i hi e' he => hu (i + 1) (by omega) e' he) h
theorem und_stop {hi : List Int} : ∀ {M : List Er} {j : Nat} {e : Er}, Und M hi j → M[j]? = some e → underE hi e = false → (M.takeWhile (underE hi)).length = j ∧ M.all (underE hi) = false
  | [], j, e, _, h, _ => by simp at h
  | y :: M, 0, e, hu, h, hn => by
    obtain rfl : y = e := by simpa using h
    simp [hn]
  | y :: M, j + 1, e, hu, h, hn => by
    have := hu 0 (by omega) y rfl
    obtain ⟨h1, h2⟩ := und_stop (M := M) (fun i hi e' he => hu (i + 1) (by omega) e' he) h hn
    rw [List.takeWhile_cons_of_pos this]
    simp [h1, h2]
theorem und_all {hi : List Int} : ∀ {M : List Er}, Und M hi M.length → M.takeWhile (underE hi) = M ∧ M.all (underE hi) = true
  | [], _ => ⟨rfl, rfl⟩
  | y :: M, hu => by
    have := hu 0 (by simp) y rfl
    obtain ⟨h1, h2⟩ := und_all (M := M) (fun i hi e' he => hu (i + 1) (by simp; omega) e' he)
    rw [List.takeWhile_cons_of_pos this]
    simp [h1, h2, this]
/-- The entry from which is gone. -/
def toE (lo : Sl) : En := ⟨lo, 9223372036854775807, false, ⟨none, 0, []⟩⟩
theorem range_cut (t : Tb) (lo : Sl) (hi : List Int) : rangeP t lo.l hi = cutP hi (goP t (toE lo).rd) := rfl
/-- What grows beside. -/
def NonC (W : World) (P : Nat → Prop) (row : Option Nat) : Prop := ∀ r, row = some r → P r ∧ ∃ o : Obj, W.heap[r]? = some o ∧ o.isCells = false
/-- Whoever asks for what lies between two bounds. -/
structure Goer (t : Tm) (lo hi : Sl) (bt bl bh B N l : Nat) (stop : Nat → Bool) (K Kx : Nat → World → Prop) (Cl : World → Nat → Prop) : Prop where
  box : ∀ j W, K j W → W.cell? ⟨bt, 0, none⟩ = some (.pointer (some ⟨t.b, 0, none⟩)) ∧ (W.cell? ⟨bl, 0, none⟩ = some lo.val ∧ In W lo.a lo.l lo.l.length lo.c) ∧ W.cell? ⟨bh, 0, none⟩ = some hi.val ∧ In W hi.a hi.l hi.l.length hi.c
  own : ∀ j W, K j W → (∀ g, Cl W g → g < W.heap.size) ∧ ¬ Cl W t.mb ∧ ¬ Cl W bh
  stay : ∀ j W W', K j W → MapAt W t.mb → Tw t.mb W W' → K j W' ∧ ∀ g, Cl W' g → Cl W g
  grow : ∀ j W W' row, K j W → W.grownBy W' row → NonC W (fun r => B ≤ r) row → K j W' ∧ ∀ g, Cl W' g → Cl W g
  growx : ∀ j W W' row, Kx j W → W.grownBy W' row → NonC W (fun r => B ≤ r) row → Kx j W' ∧ ∀ g, Cl W' g → Cl W g
  yes : ∀ j W0 W (y : En), (rangeP t.tb lo.l hi.l).1[j]? = some y.rd → stop j = false → K j W0 → Below W0.heap.size W0 W → K j W → Row W W0.heap.size y.k.a y.k.c y.k.l → Row W W0.heap.size y.v.a y.v.c y.v.l → EFit y → YieldAt Fence.wide N Tryz.prog l #[y.val, .int .i64 0] W fun e W' => e = .returned (.bool true) ∧ K (j + 1) W' ∧ Fr Cl W0 W'
  no : ∀ j W0 W (y : En), (rangeP t.tb lo.l hi.l).1[j]? = some y.rd → stop j = true → K j W0 → Below W0.heap.size W0 W → K j W → Row W W0.heap.size y.k.a y.k.c y.k.l → Row W W0.heap.size y.v.a y.v.c y.v.l → EFit y → YieldAt Fence.wide N Tryz.prog l #[y.val, .int .i64 0] W fun e W' => e = .returned (.bool false) ∧ Kx j W' ∧ Fr Cl W0 W'
  bad : ∀ W, (rangeP t.tb lo.l hi.l).2 = true → K (rangeP t.tb lo.l hi.l).1.length W → TabW (Cl W) W t → YieldAt Fence.wide N Tryz.prog l #[.agg #[.slice none 0 0, .int .i64 0, .bool false, .slice none 0 0], .int .i64 11] W fun e W' => e = .returned (.bool false) ∧ Kx (rangeP t.tb lo.l hi.l).1.length W' ∧ Fr Cl W W'
/-- What is kept beside: the boxes of the one who goes. -/
structure Kn (t : Tm) (lo : Sl) (l b bh : Nat) (K : Nat → World → Prop) (Cl : World → Nat → Prop) (j : Nat) (W : World) : Prop where
  k : K j W
  b0 : W.heap[b]? = some (.cells #[.func (.yield l) #[] #[]] 112 (0, 0))
  b1 : W.heap[b + 1]? = some (.cells #[.pointer (some ⟨t.b, 0, none⟩)] 37 (0, 0))
  b2 : W.heap[b + 2]? = some (.cells #[lo.val, .int .i64 9223372036854775807, .bool false, .slice none 0 0] 48 (0, 0))
  free : ∀ g, b ≤ g → g < b + 5 → ¬ Cl W g
  mb : t.mb < b ∧ bh < b
/-- His and the loop's own. -/
def ClI (Cl : World → Nat → Prop) (b : Nat) (W : World) (g : Nat) : Prop := Cl W g ∨ g = b + 3 ∨ g = b + 4
def Own2 (b : Nat) : Nat → Prop := fun r => r = b + 3 ∨ r = b + 3 + 1
theorem grown_obj {W W' : World} {row : Option Nat} {g : Nat} {o : Obj} (h : W.heap[g]? = some o) (hg : W.grownBy W' row) (hne : some g ≠ row) : W'.heap[g]? = some o := (hg.block g (Array.getElem?_eq_some_iff.1 h).1 hne).trans h
theorem Goer.kn_grow {t : Tm} {lo hi : Sl} {bt bl bh B N l b : Nat} {stop : Nat → Bool} {K Kx : Nat → World → Prop} {Cl : World → Nat → Prop} (hG : Goer t lo hi bt bl bh B N l stop K Kx Cl) (hB : B ≤ b) {j : Nat} {W W' : World} {row : Option Nat} (h : Kn t lo l b bh K Cl j W) (hg : W.grownBy W' row) (hr : NonC W (Own2 b) row) : Kn t lo l b bh K Cl j W' ∧ ∀ g, Cl W' g → Cl W g := by
  obtain ⟨h1, h2⟩ := hG.grow j W W' row h.k hg (fun r e => ⟨by have := (hr r e).1; unfold Own2 at this; omega, (hr r e).2⟩)
  have hne : ∀ g, g < b + 3 → some g ≠ row := fun g hlt e => by have := (hr g e.symm).1; unfold Own2 at this; omega
  exact ⟨⟨h1, grown_obj h.b0 hg (hne _ (by omega)), grown_obj h.b1 hg (hne _ (by omega)), grown_obj h.b2 hg (hne _ (by omega)), fun g g1 g2 k => h.free g g1 g2 (h2 g k), h.mb⟩, h2⟩
theorem Goer.kn_tw {t : Tm} {lo hi : Sl} {bt bl bh B N l b : Nat} {stop : Nat → Bool} {K Kx : Nat → World → Prop} {Cl : World → Nat → Prop} (hG : Goer t lo hi bt bl bh B N l stop K Kx Cl) {j : Nat} {W W' : World} (h : Kn t lo l b bh K Cl j W) (hm : MapAt W t.mb) (ht : Tw t.mb W W') : Kn t lo l b bh K Cl j W' ∧ ∀ g, Cl W' g → Cl W g := by
  obtain ⟨h1, h2⟩ := hG.stay j W W' h.k hm ht
  have := h.mb.1
  exact ⟨⟨h1, ht.obj h.b0 (by omega), ht.obj h.b1 (by omega), ht.obj h.b2 (by omega), fun g g1 g2 k => h.free g g1 g2 (h2 g k), h.mb⟩, h2⟩
theorem Kn.fr {t : Tm} {lo : Sl} {l b bh : Nat} {K K' : Nat → World → Prop} {Cl : World → Nat → Prop} {j j' : Nat} {W W' : World} (h : Kn t lo l b bh K Cl j W) (hz : b + 5 ≤ W.heap.size) (hf : Fr Cl W W') (hk : K' j' W') : Kn t lo l b bh K' Cl j' W' := by
  have f : ∀ g, b ≤ g → g < b + 5 → ∀ o, W.heap[g]? = some o → W'.heap[g]? = some o := fun g g1 g2 o ho => (hf g o ho (h.free g g1 g2)).1
  exact ⟨hk, f _ (by omega) (by omega) _ h.b0, f _ (by omega) (by omega) _ h.b1, f _ (by omega) (by omega) _ h.b2, fun g g1 g2 => (hf g _ (Array.getElem?_eq_getElem (by omega)) (h.free g g1 g2)).2, h.mb⟩
theorem Fr.refl (Cl : World → Nat → Prop) (W : World) : Fr Cl W W := fun _ _ h k => ⟨h, k⟩
theorem Fr.trans {Cl : World → Nat → Prop} {A B C : World} (h : Fr Cl A B) (k : Fr Cl B C) : Fr Cl A C := fun g o ho hn => k g o (h g o ho hn).1 (h g o ho hn).2
theorem Fr.grow {Cl : World → Nat → Prop} {b : Nat} {W W' : World} {row : Option Nat} (hg : W.grownBy W' row) (hr : NonC W (Own2 b) row) (hc : ∀ g, Cl W' g → Cl W g) : Fr (ClI Cl b) W W' := fun g o ho hn => by
  refine ⟨grown_obj ho hg (fun e => ?_), fun q => hn (q.imp (hc g) id)⟩
  have := (hr g e.symm).1
  unfold Own2 at this
  exact hn (.inr (by omega))
theorem Fr.own {Cl : World → Nat → Prop} {b : Nat} {W W' : World} (h : Fr Cl W W') : Fr (ClI Cl b) W W' := fun g o ho hn => by
  have := h g o ho (fun q => hn (.inl q))
  exact ⟨this.1, fun q => q.elim this.2 (fun q => hn (.inr q))⟩
theorem Fr.below {Cl : World → Nat → Prop} {W W' : World} (hb : Below W.heap.size W W') (hc : ∀ g, Cl W' g → Cl W g) : Fr Cl W W' := fun g o ho hn => ⟨obj_kept ho hb (Nat.le_refl _), fun q => hn (hc g q)⟩
theorem TabW.fr {Cl : World → Nat → Prop} {W W' : World} {t : Tm} (h : TabW (Cl W) W t) (hf : Fr Cl W W') (hm : ¬ Cl W t.mb) : TabW (Cl W') W' t := h.turn hf hm
/-- What the loop keeps; what holds where it was left. -/
def IE (t : Tm) (lo hi : Sl) (l b bh : Nat) (K : Nat → World → Prop) (Cl : World → Nat → Prop) (s : Nat × World) (W : World) : Prop := Kn t lo l b bh K Cl s.1 W ∧ Und (goP t.tb (toE lo).rd).1 hi.l s.1 ∧ Fr (ClI Cl b) s.2 W ∧ TabW (ClI Cl b W) W t ∧ ¬ ClI Cl b W t.mb
def XE (t : Tm) (lo hi : Sl) (b : Nat) (K Kx : Nat → World → Prop) (Cl : World → Nat → Prop) (s : Nat × World) (W : World) : Prop := (Und (goP t.tb (toE lo).rd).1 hi.l s.1 ∧ ((∃ e, (goP t.tb (toE lo).rd).1[s.1]? = some e ∧ underE hi.l e = false ∧ K s.1 W) ∨ ((∀ e, (goP t.tb (toE lo).rd).1[s.1]? = some e → underE hi.l e = true) ∧ Kx s.1 W))) ∧ Fr (ClI Cl b) s.2 W ∧ TabW (ClI Cl b W) W t ∧ ¬ ClI Cl b W t.mb
def OnE (t : Tm) (lo hi : Sl) (stop : Nat → Bool) (s : Nat × World) (args : Array Value) (s' : Nat × World) (W : World) : Prop := s' = (s.1 + 1, W) ∧ ∃ y : En, args = #[y.val, .int .i64 0] ∧ (goP t.tb (toE lo).rd).1[s.1]? = some y.rd ∧ underE hi.l y.rd = true ∧ stop s.1 = false ∧ EIn W y ∧ EFit y
def OffE (t : Tm) (lo hi : Sl) (stop : Nat → Bool) (s : Nat × World) (args : Array Value) (s' : Nat × World) (W : World) : Prop := s' = (s.1, W) ∧ ((∃ y : En, args = #[y.val, .int .i64 0] ∧ (goP t.tb (toE lo).rd).1[s.1]? = some y.rd ∧ EIn W y ∧ EFit y ∧ (underE hi.l y.rd = false ∨ (underE hi.l y.rd = true ∧ stop s.1 = true))) ∨ (args = #[.agg #[.slice none 0 0, .int .i64 0, .bool false, .slice none 0 0], .int .i64 11] ∧ (goP t.tb (toE lo).rd).1.length = s.1 ∧ (goP t.tb (toE lo).rd).2 = true))
def stopI (M : List Er) (hi : List Int) (stop : Nat → Bool) (j : Nat) : Bool := match M[j]? with
  | some e => !underE hi e || stop j
  | none => false
theorem stopI_of {M : List Er} {hi : List Int} {stop : Nat → Bool} {j : Nat} {e : Er} (h : M[j]? = some e) : stopI M hi stop j = (!underE hi e || stop j) := by
  unfold stopI
  rw [h]
theorem Goer.ie_own {t : Tm} {lo hi : Sl} {bt bl bh B N l b : Nat} {stop : Nat → Bool} {K Kx : Nat → World → Prop} {Cl : World → Nat → Prop} (hG : Goer t lo hi bt bl bh B N l stop K Kx Cl) (hB : B ≤ b) : OwnAt (b + 3) (IE t lo hi l b bh K Cl) := fun s W W' row ⟨h1, h2, h3, h4, h5⟩ hg hr => by
  have hr' : NonC W (Own2 b) row := hr
  obtain ⟨k1, k2⟩ := hG.kn_grow hB h1 hg hr'
  have hf := Fr.grow hg hr' k2
  exact ⟨k1, h2, h3.trans hf, h4.fr hf h5, fun q => h5 (q.imp (k2 _) id)⟩
theorem Goer.xe_own {t : Tm} {lo hi : Sl} {bt bl bh B N l b : Nat} {stop : Nat → Bool} {K Kx : Nat → World → Prop} {Cl : World → Nat → Prop} (hG : Goer t lo hi bt bl bh B N l stop K Kx Cl) (hB : B ≤ b) : OwnAt (b + 3) (XE t lo hi b K Kx Cl) := fun s W W' row ⟨⟨h1, h2⟩, h3, h4, h5⟩ hg hr => by
  have hr' : NonC W (Own2 b) row := hr
  have hr2 : NonC W (fun r => B ≤ r) row := fun r e => ⟨by have := (hr' r e).1; unfold Own2 at this; omega, (hr' r e).2⟩
  rcases h2 with ⟨e, e1, e2, hk⟩ | ⟨e1, hk⟩
  · obtain ⟨k1, k2⟩ := hG.grow _ _ _ _ hk hg hr2
    have hf := Fr.grow hg hr' k2
    exact ⟨⟨h1, .inl ⟨e, e1, e2, k1⟩⟩, h3.trans hf, h4.fr hf h5, fun q => h5 (q.imp (k2 _) id)⟩
  · obtain ⟨k1, k2⟩ := hG.growx _ _ _ _ hk hg hr2
    have hf := Fr.grow hg hr' k2
    exact ⟨⟨h1, .inr ⟨e1, k1⟩⟩, h3.trans hf, h4.fr hf h5, fun q => h5 (q.imp (k2 _) id)⟩
/-- The one who goes, as the one who asks within. -/
theorem Goer.asks {t : Tm} {lo hi : Sl} {bt bl bh B N l b M : Nat} {stop : Nat → Bool} {K Kx : Nat → World → Prop} {Cl : World → Nat → Prop} (hG : Goer t lo hi bt bl bh B N l stop K Kx Cl) (R : World → Prop) (R' : Nat × World → World → Prop)
    (hR : ∀ W W', R W → Two (b + 3) W W' → R W') (hRs : ∀ W, R W → b + 3 + 2 ≤ W.heap.size ∧ (∃ L, W.heap[b + 3 + 1]? = some (.loop L)) ∧ ∃ d, W.heap[b + 3]? = some (.deferred d))
    (hyes : ∀ s args s' W, OnE t lo hi stop s args s' W → IE t lo hi l b bh K Cl s W → R W → YieldAt Fence.wide M Tryz.prog (b + 3 + 1) args W fun e W' => e = .returned (.bool true) ∧ IE t lo hi l b bh K Cl s' W' ∧ R W')
    (hno : ∀ s args s' W, OffE t lo hi stop s args s' W → IE t lo hi l b bh K Cl s W → R W → YieldAt Fence.wide M Tryz.prog (b + 3 + 1) args W fun e W' => e = .returned (.bool false) ∧ XE t lo hi b K Kx Cl s' W' ∧ R' s' W') :
    Asks t (toE lo) (b + 1) (b + 2) M (b + 3 + 1) (stopI (goP t.tb (toE lo).rd).1 hi.l stop) (fun j W => (Kn t lo l b bh K Cl j W ∧ Und (goP t.tb (toE lo).rd).1 hi.l j) ∧ R W) (fun j W => ∃ V, XE t lo hi b K Kx Cl (j, V) W ∧ R' (j, V) W) (ClI Cl b) where
  box := fun j W ⟨⟨h, _⟩, _⟩ => by
    have h1 := h.b1
    have h2 := h.b2
    refine ⟨by simp [World.cell?, h1], ⟨?_, ?_, ?_, ?_⟩, (hG.box j W h.k).2.1.2, in_nil W⟩ <;> simp [World.cell?, h2, toE, Sl.val]
  own := fun j W ⟨⟨h, _⟩, r⟩ => by
    have := (hRs W r).1
    have hm := h.mb.1
    refine ⟨fun g q => ?_, fun q => ?_⟩
    · rcases q with q | q
      · exact (hG.own j W h.k).1 g q
      · omega
    · rcases q with q | q
      · exact (hG.own j W h.k).2.1 q
      · omega
  stay := fun j W W' ⟨⟨h, hu⟩, r⟩ hm ht => by
    obtain ⟨h1, h2⟩ := hG.kn_tw h hm ht
    obtain ⟨-, ⟨L, e1⟩, d, e2⟩ := hRs W r
    have := h.mb.1
    exact ⟨⟨⟨h1, hu⟩, hR W W' r ⟨(ht.obj e2 (by omega)).trans e2.symm, (ht.obj e1 (by omega)).trans e1.symm⟩⟩, fun g q => q.imp (h2 g) id⟩
  yes := fun j W y hM hst ⟨⟨h, hu⟩, r⟩ hT hE hF => by
    rw [stopI_of hM] at hst
    have hm := h.mb.1
    have h5 : ¬ ClI Cl b W t.mb := fun q => q.elim (hG.own j W h.k).2.1 (fun q => by omega)
    refine (hyes (j, W) _ (j + 1, W) W ⟨rfl, y, rfl, hM, ?_, ?_, hE, hF⟩ ⟨h, hu, Fr.refl _ _, hT, h5⟩ r).mono ?_
    · cases hq : underE hi.l y.rd <;> simp_all
    · cases hq : underE hi.l y.rd <;> simp_all
    · rintro e W' ⟨rfl, ⟨k1, k2, k3, -, -⟩, k4⟩
      exact ⟨rfl, ⟨⟨k1, k2⟩, k4⟩, k3⟩
  no := fun j W y hM hst ⟨⟨h, hu⟩, r⟩ hT hE hF => by
    rw [stopI_of hM] at hst
    have hm := h.mb.1
    have h5 : ¬ ClI Cl b W t.mb := fun q => q.elim (hG.own j W h.k).2.1 (fun q => by omega)
    refine (hno (j, W) _ (j, W) W ⟨rfl, .inl ⟨y, rfl, hM, hE, hF, ?_⟩⟩ ⟨h, hu, Fr.refl _ _, hT, h5⟩ r).mono ?_
    · cases hq : underE hi.l y.rd <;> simp_all
    · rintro e W' ⟨rfl, k1, k2⟩
      exact ⟨rfl, ⟨W, k1, k2⟩, k1.2.1⟩
  bad := fun W hb ⟨⟨h, hu⟩, r⟩ hT => by
    have hm := h.mb.1
    have h5 : ¬ ClI Cl b W t.mb := fun q => q.elim (hG.own _ W h.k).2.1 (fun q => by omega)
    refine (hno (_, W) _ (_, W) W ⟨rfl, .inr ⟨rfl, rfl, hb⟩⟩ ⟨h, hu, Fr.refl _ _, hT, h5⟩ r).mono ?_
    rintro e W' ⟨rfl, k1, k2⟩
    exact ⟨rfl, ⟨W, k1, k2⟩, k1.2.1⟩
end Go.Proofs.YtmgggddnfeojmaaGreat
namespace Go.Proofs.YtmgggddnfeojmaaGreat
open Go.RowKit
theorem EIn.abide {W W' : World} {row : Option Nat} {q : En} (h : EIn W q) (hg : W.grownBy W' row) (hr : ∀ r, row = some r → ∃ o : Obj, W.heap[r]? = some o ∧ o.isCells = false) : EIn W' q := ⟨h.1.abide hg hr, h.2.abide hg hr⟩
section
variable {t : Tm} {lo hi : Sl} {bt bl bh B N l b : Nat} {stop : Nat → Bool} {K Kx : Nat → World → Prop} {Cl : World → Nat → Prop}
theorem Goer.down (hG : Goer t lo hi bt bl bh B N l stop K Kx Cl) {j : Nat} {W W' : World} (hk : Kn t lo l b bh K Cl j W) (hm : MapAt W t.mb) (hb : Below W.heap.size W W') : Kn t lo l b bh K Cl j W' ∧ Fr Cl W W' := by
  obtain ⟨h1, h2⟩ := hG.kn_tw hk hm (Tw.of_below hb)
  exact ⟨h1, Fr.below hb h2⟩
/-- A round's beginning. -/
theorem Goer.round (hG : Goer t lo hi bt bl bh B N l stop K Kx Cl) (hB : B ≤ b) {j : Nat} {W W₂ : World} {o : Obj} (hk : Kn t lo l b bh K Cl j W) (hT : TabW (ClI Cl b W) W t) (hz : b + 5 ≤ W.heap.size) (g2 : (W.alloc o).grownBy W₂ (some (b + 3 + 1))) (hl : ∃ o' : Obj, (W.alloc o).heap[b + 3 + 1]? = some o' ∧ o'.isCells = false) :
    (Kn t lo l b bh K Cl j W₂ ∧ Fr (ClI Cl b) W W₂) ∧ (∀ g, Cl W₂ g → g < W.heap.size) ∧ b + 5 ≤ W₂.heap.size ∧ MapAt W₂ t.mb ∧ W₂.heap[W.heap.size]? = some o := by
  have hb := below_new W o
  obtain ⟨k1, f1⟩ := hG.down hk hT.at_.mapAt hb
  have hr : NonC (W.alloc o) (Own2 b) (some (b + 3 + 1)) := fun r e => by injection e with e; subst e; exact ⟨.inr rfl, hl⟩
  obtain ⟨k2, c2⟩ := hG.kn_grow hB k1 g2 hr
  obtain ⟨-, c1⟩ := hG.kn_tw hk hT.at_.mapAt (Tw.of_below hb)
  obtain ⟨es, ck, hm⟩ := hT.at_.mapAt
  have := hk.mb.1
  have hs := g2.size
  rw [World.size_alloc] at hs
  refine ⟨⟨k2, f1.own.trans (Fr.grow g2 hr c2)⟩, fun g q => (hG.own j W hk.k).1 g (c1 g (c2 g q)), by omega, ⟨es, ck, grown_obj (obj_kept hm hb (Nat.le_refl _)) g2 (fun e => by injection e with e; omega)⟩, grown_obj (heap_alloc_new W o) g2 (fun e => by injection e with e; omega)⟩
/-- A round's end. -/
theorem Kn.fin {j : Nat} {W W₂ W3 W5 : World} (hk : Kn t lo l b bh K Cl j W₂) (hz : b + 5 ≤ W₂.heap.size) (f2 : Fr (ClI Cl b) W W₂) (f3 : Fr Cl W₂ W3) (f5 : Fr Cl W3 W5) (hT : TabW (ClI Cl b W) W t) (hm : ¬ ClI Cl b W t.mb) :
    Two (b + 3) W₂ W5 ∧ Fr (ClI Cl b) W W5 ∧ TabW (ClI Cl b W5) W5 t ∧ ¬ ClI Cl b W5 t.mb := by
  have f := f3.trans f5
  have g3 : ∃ o, W₂.heap[b + 3]? = some o := ⟨_, Array.getElem?_eq_getElem (by omega)⟩
  have g4 : ∃ o, W₂.heap[b + 3 + 1]? = some o := ⟨_, Array.getElem?_eq_getElem (by omega)⟩
  obtain ⟨o3, g3⟩ := g3
  obtain ⟨o4, g4⟩ := g4
  have F := f2.trans f.own
  obtain ⟨es, ck, hm'⟩ := hT.at_.mapAt
  exact ⟨⟨((f _ _ g3 (hk.free _ (by omega) (by omega))).1).trans g3.symm, ((f _ _ g4 (hk.free _ (by omega) (by omega))).1).trans g4.symm⟩, F, hT.fr F hm, (F _ _ hm' hm).2⟩
/-- The boxes that a round reads. -/
def RdS (E bh b : Nat) (W W' : World) : Prop := W'.heap[E]? = W.heap[E]? ∧ W'.heap[bh]? = W.heap[bh]? ∧ W'.heap[b]? = W.heap[b]?
theorem Goer.rds (hG : Goer t lo hi bt bl bh B N l stop K Kx Cl) {j E : Nat} {W W' : World} (hk : Kn t lo l b bh K Cl j W) (hf : Fr Cl W W') {o : Obj} (hE : W.heap[E]? = some o) (hc : ∀ g, Cl W g → g < E) : RdS E bh b W W' := by
  have hb : ∃ o, W.heap[bh]? = some o := ⟨_, Array.getElem?_eq_getElem (by have := hk.mb.2; have := (Array.getElem?_eq_some_iff.1 hk.b0).1; omega)⟩
  obtain ⟨o2, hb⟩ := hb
  exact ⟨(hf _ _ hE (fun q => by have := hc _ q; omega)).1.trans hE.symm, (hf _ _ hb (hG.own j W hk.k).2.2).1.trans hb.symm, (hf _ _ hk.b0 (hk.free _ (by omega) (by omega))).1.trans hk.b0.symm⟩
theorem Goer.cells (hG : Goer t lo hi bt bl bh B N l stop K Kx Cl) {j E : Nat} {W W' : World} {a0 a1 a2 a3 : Value} {T : TypeId} (hk : Kn t lo l b bh K Cl j W) (hE : W.heap[E]? = some (.cells #[a0, a1, a2, a3] T (0, 0))) (hs : RdS E bh b W W') :
    (W'.cell? ⟨E, 0, none⟩ = some a0 ∧ W'.cell? ⟨E, 1, none⟩ = some a1 ∧ W'.cell? ⟨E, 2, none⟩ = some a2 ∧ W'.cell? ⟨E, 3, none⟩ = some a3) ∧ W'.cell? ⟨bh, 0, none⟩ = some hi.val ∧ W'.cell? ⟨b, 0, none⟩ = some (.func (.yield l) #[] #[]) := by
  obtain ⟨h1, h2, h3⟩ := hs
  rw [hE] at h1
  rw [hk.b0] at h3
  refine ⟨⟨?_, ?_, ?_, ?_⟩, (World.cell?_of_block h2).trans (hG.box j W hk.k).2.2.1, ?_⟩ <;> simp [World.cell?, h1, h3]
theorem goer_get {j : Nat} {y y' : En} (hu : Und (goP t.tb (toE lo).rd).1 hi.l j) (hM : (goP t.tb (toE lo).rd).1[j]? = some y.rd) (hy : underE hi.l y.rd = true) (he : y'.rd = y.rd) : (rangeP t.tb lo.l hi.l).1[j]? = some y'.rd := by
  rw [he, range_cut]
  exact und_get (hu.next hM hy) hM
theorem fit_of {y y' : En} (h : EFit y) (he : y'.rd = y.rd) : EFit y' := by
  have : y'.s = y.s := congrArg (fun r : Er => r.2.1) he
  unfold EFit at h ⊢
  rw [this]
  exact h
/-- What is left of a going over between two bounds. -/
def EPost (t : Tm) (lo hi : Sl) (stop : Nat → Bool) (K Kx : Nat → World → Prop) (Cl : World → Nat → Prop) (W : World) : Prop := (((rangeP t.tb lo.l hi.l).2 = false ∧ (∀ i, i < (rangeP t.tb lo.l hi.l).1.length → stop i = false) ∧ K (rangeP t.tb lo.l hi.l).1.length W) ∨ (∃ s, LeftAt (rangeP t.tb lo.l hi.l) stop s ∧ Kx s W)) ∧ TabW (Cl W) W t
theorem stop_of {M : List Er} {h : List Int} {i : Nat} (hi : i < M.length) (hs : stopI M h stop i = false) : stop i = false := by
  rw [stopI_of (List.getElem?_eq_getElem hi)] at hs
  simp only [Bool.or_eq_false_iff] at hs
  exact hs.2
theorem IE.post {s : Nat × World} {W : World} (h : IE t lo hi l b bh K Cl s W) (h1 : s.1 = (goP t.tb (toE lo).rd).1.length) (h2 : (goP t.tb (toE lo).rd).2 = false) (h3 : ∀ i, i < (goP t.tb (toE lo).rd).1.length → stopI (goP t.tb (toE lo).rd).1 hi.l stop i = false) : EPost t lo hi stop K Kx Cl W := by
  obtain ⟨k1, k2, -, k4, -⟩ := h
  rw [h1] at k2
  obtain ⟨u1, u2⟩ := und_all k2
  have e1 : (rangeP t.tb lo.l hi.l).1 = (goP t.tb (toE lo).rd).1 := by rw [range_cut]; exact u1
  have e2 : (rangeP t.tb lo.l hi.l).2 = false := by rw [range_cut]; unfold cutP; rw [h2]; rfl
  refine ⟨.inl ⟨e2, ?_, ?_⟩, k4.less (fun g q => .inl q)⟩
  · rw [e1]
    exact fun i hi => stop_of hi (h3 i hi)
  · rw [e1, ← h1]
    exact k1.k
theorem XE.post {s : Nat × World} {W : World} (h : XE t lo hi b K Kx Cl s W) (hl : LeftAt (goP t.tb (toE lo).rd) (stopI (goP t.tb (toE lo).rd).1 hi.l stop) s.1) : EPost t lo hi stop K Kx Cl W := by
  obtain ⟨⟨k1, k2⟩, -, k4, -⟩ := h
  obtain ⟨l1, l2⟩ := hl
  refine ⟨?_, k4.less (fun g q => .inl q)⟩
  rcases k2 with ⟨e, e1, e2, hk⟩ | ⟨e1, hk⟩
  · obtain ⟨u1, u2⟩ := und_stop k1 e1 e2
    have hlt := (List.getElem?_eq_some_iff.1 e1).1
    have q1 : (rangeP t.tb lo.l hi.l).1.length = s.1 := by rw [range_cut]; exact u1
    have q2 : (rangeP t.tb lo.l hi.l).2 = false := by rw [range_cut]; unfold cutP; rw [u2, Bool.and_false]
    refine .inl ⟨q2, ?_, ?_⟩
    · rw [q1]
      exact fun i hi => stop_of (by omega) (l1 i hi)
    · rw [q1]
      exact hk
  · rcases l2 with ⟨hlt, hs⟩ | ⟨hle, hf⟩
    · have hM := List.getElem?_eq_getElem hlt
      generalize (goP t.tb (toE lo).rd).1[s.1] = e at hM
      have hu := e1 e hM
      have hg : (rangeP t.tb lo.l hi.l).1[s.1]? = some e := by rw [range_cut]; exact und_get (k1.next hM hu) hM
      rw [stopI_of hM, hu] at hs
      exact .inr ⟨s.1, ⟨fun i hi => stop_of (by omega) (l1 i hi), .inl ⟨(List.getElem?_eq_some_iff.1 hg).1, by simpa using hs⟩⟩, hk⟩
    · rw [hle] at k1
      obtain ⟨u1, u2⟩ := und_all k1
      have q1 : (rangeP t.tb lo.l hi.l).1 = (goP t.tb (toE lo).rd).1 := by rw [range_cut]; exact u1
      have q2 : (rangeP t.tb lo.l hi.l).2 = true := by rw [range_cut]; unfold cutP; rw [u2, hf]; rfl
      exact .inr ⟨s.1, ⟨fun i hi => stop_of (by omega) (l1 i hi), .inr ⟨by rw [q1]; exact hle, q2⟩⟩, hk⟩
end
end Go.Proofs.YtmgggddnfeojmaaGreat
