/-
  All that a table tells of a range, as the law asks for it: what stands meanwhile. Walks: a key looked for in a table, by the program. The program's disk: what each call answers and leaves, on what is read of it; one file laid anew. Walks: the program's disk: Read, List, Sync, Delete. Walks: the program's disk: Append.
-/
import Derived.Maps.AppendAt
import Derived.Test.YtmgggddnfeojmaaGreatJO14
import Derived.Test.YtmgggddnfeojmaaGreatJO18
set_option linter.unusedSimpArgs false
set_option linter.unusedVariables false
namespace Go.Proofs.YtmgggddnfeojmaaGreat
open Go.RowKit
/-- A slice's block; the blocks of entries' bytes. -/
def SlB (a : Option Addr) (g : Nat) : Prop := ∃ v : Addr, a = some v ∧ g = v.block
def EnB (l : List En) (g : Nat) : Prop := ∃ q ∈ l, SlB q.k.a g ∨ SlB q.v.a g
/-- What is the law's own: its cells, its loop's, and what its list leads to. -/
def OutCl (H L : Nat) : World → Nat → Prop := fun W g => (H ≤ g ∧ g < H + 3) ∨ g = L ∨ g = L + 1 ∨ ∃ (A : Addr) (n c : Nat) (t : TypeId) (fr : Nat × Nat), W.heap[H + 2]? = some (.cells #[.slice (some A) n c] t fr) ∧ (g = A.block ∨ ∃ (i : Nat) (v : Addr) (m d : Nat), i < n * 4 ∧ W.cell? (A.add i) = some (.slice (some v) m d) ∧ g = v.block)
/-- A list of entries that lies, held in a cell. -/
def OutAt (H B : Nat) (W : World) (A : Option Addr) (c j : Nat) (l : List En) : Prop := W.heap[H + 2]? = some (.cells #[.slice A j c] 22 (0, 0)) ∧ l.length = j ∧ Erow W B A c l ∧ EMades W B l
section
variable {H L B : Nat} {W W' : World} {A : Option Addr} {c j : Nat} {l : List En}
theorem evals_mem {l : List En} {v : Addr} {m d : Nat} (h : Value.slice (some v) m d ∈ evals l) : EnB l v.block := by
  obtain ⟨q, hq, hc⟩ := List.mem_flatMap.1 h
  refine ⟨q, hq, ?_⟩
  simp only [En.cells, Sl.val, List.mem_cons, List.mem_nil_iff, or_false] at hc
  rcases hc with hc | hc | hc | hc
  · injection hc with h1
    exact .inl ⟨v, h1.symm, rfl⟩
  · cases hc
  · cases hc
  · injection hc with h1
    exact .inr ⟨v, h1.symm, rfl⟩
theorem OutAt.cl (h : OutAt H B W A c j l) (g : Nat) : OutCl H L W g ↔ (H ≤ g ∧ g < H + 3) ∨ g = L ∨ g = L + 1 ∨ SlB A g ∨ EnB l g := by
  obtain ⟨h1, h2, h3, h4⟩ := h
  constructor
  · rintro (k | k | k | ⟨A0, n, c0, t, fr, e, k⟩)
    · exact .inl k
    · exact .inr (.inl k)
    · exact .inr (.inr (.inl k))
    · rw [h1] at e
      injection e with e
      injection e with e _ _
      have e := (Array.mk.inj e)
      injection e with e _
      injection e with e1 e2 e3
      subst e1
      subst e2
      rcases k with k | ⟨i, v, m, d, hi, hv, k⟩
      · exact .inr (.inr (.inr (.inl ⟨A0, rfl, k⟩)))
      · refine .inr (.inr (.inr (.inr ?_)))
        obtain ⟨ad, ha, hc⟩ := h3.lies.resolve_left (fun e => by have := congrArg List.length e; rw [evals_len] at this; simp at this; omega)
        injection ha with ha
        subst ha
        have hi2 : i < (evals l).length := by rw [evals_len]; omega
        have h5 := hc i _ (List.getElem?_eq_getElem hi2)
        rw [hv] at h5
        injection h5 with h5
        have := evals_mem (l := l) (v := v) (m := m) (d := d) (h5 ▸ List.getElem_mem hi2)
        rw [k]
        exact this
  · rintro (k | k | k | ⟨v, rfl, k⟩ | ⟨q, hq, k⟩)
    · exact .inl k
    · exact .inr (.inl k)
    · exact .inr (.inr (.inl k))
    · exact .inr (.inr (.inr ⟨v, _, _, _, _, h1, .inl k⟩))
    · obtain ⟨i, hi, e⟩ := List.mem_iff_getElem.1 hq
      have hg : l[i]? = some q := by rw [List.getElem?_eq_getElem hi, e]
      obtain ⟨ad, rfl, hc⟩ := h3.lies.resolve_left (fun e => by have := congrArg List.length e; rw [evals_len] at this; simp at this; omega)
      obtain ⟨g0, g1, g2, g3⟩ := evals_get l i q hg
      refine .inr (.inr (.inr ⟨ad, _, _, _, _, h1, .inr ?_⟩))
      rcases k with ⟨v, e1, k⟩ | ⟨v, e1, k⟩
      · have := hc _ _ g0
        unfold Sl.val at this
        rw [e1] at this
        exact ⟨i * 4, v, _, _, by omega, this, k⟩
      · have := hc _ _ g3
        unfold Sl.val at this
        rw [e1] at this
        exact ⟨i * 4 + 3, v, _, _, by omega, this, k⟩
/-- It hangs on few blocks. -/
theorem OutAt.of (h : OutAt H B W A c j l) (h0 : W'.heap[H + 2]? = W.heap[H + 2]?) (hk : ∀ g o, B ≤ g → W.heap[g]? = some o → o.isCells = true → W'.heap[g]? = some o) : OutAt H B W' A c j l := by
  obtain ⟨h1, h2, h3, h4⟩ := h
  have ho : ∀ {e : TypeId} {size n : Nat} {v : Value} {xs : List Value}, W.ownsRow B e size v n xs → W'.ownsRow B e size v n xs := fun h => by
    refine ⟨h.1, ?_⟩
    rcases h.2 with hn | ⟨g, cap, cur, e1, k1, k2, k3⟩
    · exact .inl hn
    · exact .inr ⟨g, cap, cur, e1, k1, hk _ _ k1 k2 rfl, k3⟩
  exact ⟨h0.trans h1, h2, ho h3, fun q hq => ⟨ho (h4 q hq).1, ho (h4 q hq).2⟩⟩
theorem OutAt.low (h : OutAt H B W A c j l) : (∀ g, SlB A g → B ≤ g ∧ g < W.heap.size) ∧ ∀ g, EnB l g → B ≤ g ∧ g < W.heap.size := by
  obtain ⟨h1, h2, h3, h4⟩ := h
  refine ⟨?_, ?_⟩
  · rintro g ⟨v, e, rfl⟩
    exact own_in h3 v e
  · rintro g ⟨q, hq, (⟨v, e, rfl⟩ | ⟨v, e, rfl⟩)⟩
    · exact own_in (h4 q hq).1 v e
    · exact own_in (h4 q hq).2 v e
end
/-- What stands while all is asked for. -/
structure KA (H L mb : Nat) (w3 : World) (M : List Er) (j : Nat) (W : World) : Prop where
  kp : Kp (fun g => g < L ∧ g ≠ mb ∧ ¬ (H ≤ g ∧ g < H + 3)) w3 W
  r0 : W.heap[H]? = some (.cells #[.slice none 0 0] 22 (0, 0))
  r1 : W.heap[H + 1]? = some (.cells #[.int .i64 0] 30 (0, 0))
  out : ∃ (l : List En) (A : Option Addr) (c : Nat), OutAt H (L + 2) W A c j l ∧ ers l = M.take j
/-- Where it was left. -/
structure XA (H L mb : Nat) (w3 : World) (M : List Er) (j : Nat) (W : World) : Prop where
  kp : Kp (fun g => g < L ∧ g ≠ mb ∧ ¬ (H ≤ g ∧ g < H + 3)) w3 W
  r1 : W.heap[H + 1]? = some (.cells #[.int .i64 11] 30 (0, 0))
  out : ∃ (l : List En) (A : Option Addr) (c : Nat), OutAt H (L + 2) W A c j l ∧ ers l = M.take j ∧ W.heap[H]? = some (.cells #[.slice A j c] 22 (0, 0))
section
variable {H L mb j : Nat} {w3 W W' : World} {M : List Er}
theorem kp_step {S : Nat → Prop} (h : Kp S w3 W) (h1 : W'.os = W.os) (h2 : W'.tape = W.tape) (h3 : W'.output = W.output) (h4 : W.heap.size ≤ W'.heap.size) (hk : ∀ g, S g → W'.heap[g]? = W.heap[g]?) : Kp S w3 W' :=
  ⟨h1.trans h.os, h2.trans h.tape, h3.trans h.output, Nat.le_trans h.size h4, fun g hg => (hk g hg).trans (h.block g hg)⟩
/-- What stays, whoever grows beside. -/
theorem KA.step (h : KA H L mb w3 M j W) (h1 : W'.os = W.os) (h2 : W'.tape = W.tape) (h3 : W'.output = W.output) (h4 : W.heap.size ≤ W'.heap.size) (hL : L ≤ W.heap.size) (hH : H + 3 ≤ L)
    (hk : ∀ g o, W.heap[g]? = some o → g ≠ mb → (g < L ∨ (L + 2 ≤ g ∧ o.isCells = true)) → W'.heap[g]? = some o) (hm : mb < H) : KA H L mb w3 M j W' ∧ ∀ g, OutCl H L W' g → OutCl H L W g := by
  have hb : ∀ g, g < L → g ≠ mb → W'.heap[g]? = W.heap[g]? := fun g hg hn => by
    have e := Array.getElem?_eq_getElem (xs := W.heap) (i := g) (by omega)
    rw [e]
    exact hk g _ e hn (.inl hg)
  obtain ⟨l, A, c, ho, he⟩ := h.out
  have ho' := ho.of (hb (H + 2) (by omega) (by omega)) (fun g o g1 g2 g3 => hk g o g2 (by omega) (.inr ⟨g1, g3⟩))
  refine ⟨⟨kp_step h.kp h1 h2 h3 h4 (fun g hg => hb g hg.1 hg.2.1), (hb _ (by omega) (by omega)).trans h.r0, (hb _ (by omega) (by omega)).trans h.r1, l, A, c, ho', he⟩, fun g q => ?_⟩
  rw [ho.cl]
  exact (ho'.cl g).1 q
theorem XA.step (h : XA H L mb w3 M j W) (h1 : W'.os = W.os) (h2 : W'.tape = W.tape) (h3 : W'.output = W.output) (h4 : W.heap.size ≤ W'.heap.size) (hL : L ≤ W.heap.size) (hH : H + 3 ≤ L)
    (hk : ∀ g o, W.heap[g]? = some o → g ≠ mb → (g < L ∨ (L + 2 ≤ g ∧ o.isCells = true)) → W'.heap[g]? = some o) (hm : mb < H) : XA H L mb w3 M j W' ∧ ∀ g, OutCl H L W' g → OutCl H L W g := by
  have hb : ∀ g, g < L → g ≠ mb → W'.heap[g]? = W.heap[g]? := fun g hg hn => by
    have e := Array.getElem?_eq_getElem (xs := W.heap) (i := g) (by omega)
    rw [e]
    exact hk g _ e hn (.inl hg)
  obtain ⟨l, A, c, ho, he, hr⟩ := h.out
  have ho' := ho.of (hb (H + 2) (by omega) (by omega)) (fun g o g1 g2 g3 => hk g o g2 (by omega) (.inr ⟨g1, g3⟩))
  refine ⟨⟨kp_step h.kp h1 h2 h3 h4 (fun g hg => hb g hg.1 hg.2.1), (hb _ (by omega) (by omega)).trans h.r1, l, A, c, ho', he, (hb _ (by omega) (by omega)).trans hr⟩, fun g q => ?_⟩
  rw [ho.cl]
  exact (ho'.cl g).1 q
/-- Growth beside. -/
theorem grown_keep {row : Option Nat} (hg : W.grownBy W' row) (hr : ∀ r, row = some r → L ≤ r ∧ ∃ o : Obj, W.heap[r]? = some o ∧ o.isCells = false) : ∀ g o, W.heap[g]? = some o → (g < L ∨ o.isCells = true) → W'.heap[g]? = some o := fun g o ho hc =>
  grown_obj ho hg (fun e => by
    obtain ⟨h1, o', h2, h3⟩ := hr g e.symm
    rcases hc with hc | hc
    · omega
    · rw [ho] at h2
      injection h2 with h2
      rw [← h2, hc] at h3
      cases h3)
theorem KA.grow (h : KA H L mb w3 M j W) (hL : L ≤ W.heap.size) (hH : H + 3 ≤ L) (hm : mb < H) {row : Option Nat} (hg : W.grownBy W' row) (hr : ∀ r, row = some r → L ≤ r ∧ ∃ o : Obj, W.heap[r]? = some o ∧ o.isCells = false) : KA H L mb w3 M j W' ∧ ∀ g, OutCl H L W' g → OutCl H L W g :=
  h.step hg.os hg.tape hg.output hg.size hL hH (fun g o ho _ hc => grown_keep hg hr g o ho (hc.imp id (fun q => q.2))) hm
theorem XA.grow (h : XA H L mb w3 M j W) (hL : L ≤ W.heap.size) (hH : H + 3 ≤ L) (hm : mb < H) {row : Option Nat} (hg : W.grownBy W' row) (hr : ∀ r, row = some r → L ≤ r ∧ ∃ o : Obj, W.heap[r]? = some o ∧ o.isCells = false) : XA H L mb w3 M j W' ∧ ∀ g, OutCl H L W' g → OutCl H L W g :=
  h.step hg.os hg.tape hg.output hg.size hL hH (fun g o ho _ hc => grown_keep hg hr g o ho (hc.imp id (fun q => q.2))) hm
theorem KA.tw (h : KA H L mb w3 M j W) (hL : L ≤ W.heap.size) (hH : H + 3 ≤ L) (hm : mb < H) (ht : Tw mb W W') : KA H L mb w3 M j W' ∧ ∀ g, OutCl H L W' g → OutCl H L W g :=
  h.step ht.os ht.tape ht.output ht.size hL hH (fun g o ho hn _ => ht.obj ho hn) hm
theorem fr_own {row : Option Nat} {V : World} (hf : Fr (OutCl H L) V W) (hg : W.grownBy W' row) (hr : ∀ r, row = some r → r = L ∨ r = L + 1) (hc : ∀ g, OutCl H L W' g → OutCl H L W g) : Fr (OutCl H L) V W' :=
  hf.trans (fun g o ho hn => ⟨grown_obj ho hg (fun e => hn (by rcases hr g e.symm with q | q; exact .inr (.inl q); exact .inr (.inr (.inl q)))), fun q => hn (hc g q)⟩)
end
end Go.Proofs.YtmgggddnfeojmaaGreat
namespace Go.Proofs.YtmgggddnfeojmaaGreat
open Go.RowKit Go.Shelf
attribute [local go_sem] Oper.semAt_some
section
variable {H : Nat} {w W W' : World} {t : Tm} {k : Sl} {s : Int}
theorem getP_of {p : List Er × Bool} (h : goP t.tb (keyE k s).rd = p) : getP t.tb k.l s = firstP k.l p := congrArg (firstP k.l) h
/-- The one who looks, as the one who asks. -/
theorem get_asks {M : Nat} (hw : w.heap.size = H) (hk0 : In w k.a k.l k.l.length k.c) (hm : t.mb < H) (hmm : MapAt w t.mb) (R : World → Prop) (R' : Nat × World → World → Prop)
    (hR : ∀ W W', R W → Two (H + 6) W W' → R W') (hRs : ∀ W, R W → H + 6 + 2 ≤ W.heap.size ∧ (∃ L, W.heap[H + 6 + 1]? = some (.loop L)) ∧ ∃ d, W.heap[H + 6]? = some (.deferred d))
    (hno : ∀ z args z' W, OffG t k s z args z' W → IG H w t k s z W → R W → YieldAt Fence.wide M Tryz.prog (H + 6 + 1) args W fun e W' => e = .returned (.bool false) ∧ XG H w t k s z' W' ∧ R' z' W') :
    Asks t (keyE k s) (H + 4) (H + 5) M (H + 6 + 1) (fun _ => true) (fun j W => (j = 0 ∧ KG H w t k s W) ∧ R W) (fun _ W => ∃ z : Nat × World, z.1 ≠ 0 ∧ XG H w t k s z W ∧ R' z W) (ClG H) where
  box := fun j W ⟨⟨_, h⟩, _⟩ => by
    have h4 := h.b4
    have h5 := h.b5
    refine ⟨by simp [World.cell?, h4], ⟨?_, ?_, ?_, ?_⟩, hk0.tw h.tw hmm, in_nil W⟩ <;> simp [World.cell?, h5, keyE, Sl.val]
  own := fun j W ⟨⟨_, h⟩, r⟩ => ⟨fun g q => by have := (hRs W r).1; unfold ClG at q; omega, by unfold ClG; omega⟩
  stay := fun j W W' ⟨⟨h0, h⟩, r⟩ hm' ht => by
    obtain ⟨-, ⟨L, e1⟩, d, e2⟩ := hRs W r
    exact ⟨⟨⟨h0, h.tw2 hm ht⟩, hR W W' r ⟨(ht.obj e2 (by omega)).trans e2.symm, (ht.obj e1 (by omega)).trans e1.symm⟩⟩, fun g q => q⟩
  yes := fun j W y hM hst _ _ _ _ => by cases hst
  no := fun j W y hM _ ⟨⟨h0, h⟩, r⟩ hT hE hF => by
    subst h0
    obtain ⟨M', hM'⟩ : ∃ M', (goP t.tb (keyE k s).rd).1 = y.rd :: M' := by
      cases hq : (goP t.tb (keyE k s).rd).1 with
      | nil => rw [hq] at hM; simp at hM
      | cons a l => rw [hq] at hM; injection hM with hM; exact ⟨l, by rw [hM]⟩
    refine (hno (0, W) _ (if y.k.l = k.l then 1 else 2, W) W ⟨rfl, rfl, .inl ⟨y, M', hM', rfl, hE, hF, rfl⟩⟩ ⟨rfl, h, hT⟩ r).mono ?_
    rintro e W' ⟨rfl, k1, k2⟩
    exact ⟨rfl, ⟨_, by simp only; split <;> decide, k1, k2⟩, k1.1⟩
  bad := fun W hb ⟨⟨h0, h⟩, r⟩ hT => by
    have hp : goP t.tb (keyE k s).rd = ([], true) := Prod.ext (List.eq_nil_of_length_eq_zero h0) hb
    refine (hno (0, W) _ (3, W) W ⟨rfl, rfl, .inr ⟨hp, rfl, rfl⟩⟩ ⟨rfl, h, hT⟩ r).mono ?_
    rintro e W' ⟨rfl, k1, k2⟩
    exact ⟨rfl, ⟨_, by simp, k1, k2⟩, k1.1⟩
/-- A round's beginning. -/
theorem ig_round {z : Nat × World} {W₂ : World} {o : Obj} (hw : w.heap.size = H) (hm : t.mb < H) (hi : IG H w t k s z W) (hz : H + 8 ≤ W.heap.size) (g2 : (W.alloc o).grownBy W₂ (some (H + 6 + 1))) (hl : ∃ o' : Obj, (W.alloc o).heap[H + 6 + 1]? = some o' ∧ o'.isCells = false) :
    KG H w t k s W₂ ∧ Fr (ClG H) W W₂ ∧ TabW (ClG H W₂) W₂ t ∧ H + 8 ≤ W₂.heap.size ∧ W₂.heap[W.heap.size]? = some o := by
  have hb := below_new W o
  have f1 : Fr (ClG H) W (W.alloc o) := Fr.below hb (fun g q => q)
  have hr : ∀ r, some (H + 6 + 1) = some r → H + 6 ≤ r ∧ r < H + 8 := fun r e => by injection e with e; omega
  have f2 := f1.trans (fr_grown (H := H) g2 hr)
  have hs := g2.size
  rw [World.size_alloc] at hs
  exact ⟨(hi.2.1.tw2 hm (Tw.of_below hb)).grow (by omega) g2 (fun r e => (hr r e).1), f2, hi.2.2.fr f2 (by unfold ClG; omega), by omega, grown_obj (heap_alloc_new W o) g2 (fun e => by injection e with e; omega)⟩
/-- A round's end. -/
theorem xg_core {V W₂ W3 W5 : World} {y : En} {b : Bool} {er : Int} (n : Nat) (hm : t.mb < H) (hw : w.heap.size = H) (h2 : KG H w t k s W₂) (f2 : Fr (ClG H) V W₂) (hT : TabW (ClG H W₂) W₂ t) (hz : H ≤ W₂.heap.size) (b3 : Below W₂.heap.size W₂ W3) (k5 : Kp (fun j => j ≠ H + 1 ∧ j ≠ H + 1 + 1 ∧ j ≠ H + 1 + 1 + 1) W3 W5) (hr : ResG H y b er W5) (ha : AnsG (getP t.tb k.l s) y b er) (r1 : Row W3 W₂.heap.size y.k.a y.k.c y.k.l) (r2 : Row W3 W₂.heap.size y.v.a y.v.c y.v.l) (hx : H + 4 ≤ W₂.heap.size) (h22 : n = 2 → getP t.tb k.l s = (none, false)) :
    (∀ g o, W₂.heap[g]? = some o → (g ≠ H + 1 ∧ g ≠ H + 1 + 1 ∧ g ≠ H + 1 + 1 + 1) → W5.heap[g]? = some o) ∧ XG H w t k s (n, V) W5 := by
  have ho : ∀ g o, W₂.heap[g]? = some o → (g ≠ H + 1 ∧ g ≠ H + 1 + 1 ∧ g ≠ H + 1 + 1 + 1) → W5.heap[g]? = some o := fun g o hg hn => (k5.block g hn).trans (obj_kept hg b3 (Nat.le_refl _))
  have f5 : Fr (ClG H) W₂ W5 := fun g o hg hn => ⟨ho g o hg (by unfold ClG at hn; omega), hn⟩
  have hrow : ∀ {A : Option Addr} {c : Nat} {L : List Int}, Row W3 W₂.heap.size A c L → Row W5 H A c L := fun r => own_mono (own_kp r k5 (fun ad ha => by have := (own_in r ad ha).1; omega)) (by omega)
  refine ⟨ho, f2.trans f5, hT.fr f5 (by unfold ClG; omega), ?_, ⟨y, b, er, hr, ha, hrow r1, hrow r2⟩, h22⟩
  refine ⟨k5.os.trans (b3.os.trans h2.tw.os), k5.tape.trans (b3.tape.trans h2.tw.tape), k5.output.trans (b3.output.trans h2.tw.output), Nat.le_trans h2.tw.size (Nat.le_trans b3.size k5.size), fun j hj => ?_⟩
  have hj2 := h2.tw.size
  exact (k5.block j (by omega)).trans ((b3.block j (by omega)).trans (h2.tw.block j hj))
theorem xg_end {V W₂ W3 W5 : World} {y : En} {b : Bool} {er : Int} (n : Nat) (hm : t.mb < H) (hw : w.heap.size = H) (h2 : KG H w t k s W₂) (f2 : Fr (ClG H) V W₂) (hT : TabW (ClG H W₂) W₂ t) (hz : H + 8 ≤ W₂.heap.size) (b3 : Below W₂.heap.size W₂ W3) (k5 : Kp (fun j => j ≠ H + 1 ∧ j ≠ H + 1 + 1 ∧ j ≠ H + 1 + 1 + 1) W3 W5) (hr : ResG H y b er W5) (ha : AnsG (getP t.tb k.l s) y b er) (r1 : Row W3 W₂.heap.size y.k.a y.k.c y.k.l) (r2 : Row W3 W₂.heap.size y.v.a y.v.c y.v.l) (h22 : n = 2 → getP t.tb k.l s = (none, false)) :
    Two (H + 6) W₂ W5 ∧ XG H w t k s (n, V) W5 := by
  obtain ⟨ho, hx⟩ := xg_core n hm hw h2 f2 hT (by omega) b3 k5 hr ha r1 r2 (by omega) h22
  obtain ⟨o3, g3⟩ : ∃ o, W₂.heap[H + 6]? = some o := ⟨_, Array.getElem?_eq_getElem (by omega)⟩
  obtain ⟨o4, g4⟩ : ∃ o, W₂.heap[H + 6 + 1]? = some o := ⟨_, Array.getElem?_eq_getElem (by omega)⟩
  exact ⟨⟨(ho _ _ g3 (by omega)).trans g3.symm, (ho _ _ g4 (by omega)).trans g4.symm⟩, hx⟩
/-- Behind a break. -/
theorem xg_zero {z : Nat × World} {W5 : World} (hm : t.mb < H) (hw : w.heap.size = H) (hx : XG H w t k s z W) (k5 : Kp (fun j => j ≠ H + 1 ∧ j ≠ H + 1 + 1 ∧ j ≠ H + 1 + 1 + 1) W W5) (hz : H ≤ W.heap.size) : Tw t.mb w W5 ∧ TabW (ClG H W5) W5 t := by
  obtain ⟨-, h2, h3, -⟩ := hx
  refine ⟨⟨k5.os.trans h3.os, k5.tape.trans h3.tape, k5.output.trans h3.output, Nat.le_trans h3.size k5.size, fun j hj => (k5.block j (by omega)).trans (h3.block j hj)⟩, ?_⟩
  exact h2.fr (fun g o hg hn => ⟨(k5.block g (by unfold ClG at hn; omega)).trans hg, hn⟩) (by unfold ClG; omega)
end
end Go.Proofs.YtmgggddnfeojmaaGreat
namespace Go.Proofs.YtmgggddnfeojmaaGreat
open Go.RowKit
open Go.Maps
def Vm.step (m : Vm) : Vm × Int := if m.left = 0 then ({ m with down := true }, 20) else if 0 < m.left then ({ m with left := m.left - 1 }, 0) else (m, 0)
def Vm.hinder (m : Vm) (names : List ByteArray) (s : ByteArray) : Int := if readyE m.down names ≠ 0 then readyE m.down names else if (findM s m.fs).isNone then 22 else 0
def Vm.does (m : Vm) (e : Int) (f : List (ByteArray × List Int × Int) → List (ByteArray × List Int × Int)) : Vm × Int := if e ≠ 0 then (m, e) else if m.step.2 ≠ 0 then m.step else ({ m.step.1 with fs := f m.fs }, 0)
def Vm.sync (m : Vm) (s : ByteArray) : Vm × Int := m.does (m.hinder [s] s) (syncM s)
def Vm.read (m : Vm) (s : ByteArray) : List Int × Int := if m.hinder [s] s ≠ 0 then ([], m.hinder [s] s) else (dataM s m.fs, 0)
def Vm.append (m : Vm) (s : ByteArray) (b : List Int) : Vm × Int :=
  if readyE m.down [s] ≠ 0 then (m, readyE m.down [s]) else if 0 ≤ m.room ∧ m.room < ((b.length + sumM m.fs : Nat) : Int) then (m, 21) else if m.step.2 ≠ 0 then m.step
  else ({ m.step.1 with fs := appM s b (if findM s m.fs = none then insM (s, [], 0) m.fs else m.fs) }, 0)
theorem step_vm (p : Pk) : (stepP p).1.vm = p.vm.step.1 ∧ (stepP p).2 = p.vm.step.2 ∧ (stepP p).1.l = p.l ∧ (stepP p).1.b = p.b ∧ (stepP p).1.K = p.K ∧ (stepP p).1.keep = p.keep ∧ (stepP p).1.kc = p.kc ∧ (stepP p).1.size = p.size ∧ (stepP p).1.room = p.room := by
  have e : p.vm.step = if p.left = 0 then ({ p.vm with down := true }, 20) else if 0 < p.left then ({ p.vm with left := p.left - 1 }, 0) else (p.vm, 0) := rfl
  rw [e]
  unfold stepP
  split
  · exact ⟨rfl, rfl, rfl, rfl, rfl, rfl, rfl, rfl, rfl⟩
  · split
    · exact ⟨rfl, rfl, rfl, rfl, rfl, rfl, rfl, rfl, rfl⟩
    · exact ⟨rfl, rfl, rfl, rfl, rfl, rfl, rfl, rfl, rfl⟩
theorem step_left (p : Pk) (h : -9223372036854775808 ≤ p.left ∧ p.left ≤ 9223372036854775807) : -9223372036854775808 ≤ (stepP p).1.left ∧ (stepP p).1.left ≤ 9223372036854775807 := by
  unfold stepP
  split
  · exact h
  · split
    · show _ ≤ p.left - 1 ∧ p.left - 1 ≤ _
      omega
    · exact h
theorem PSt.step {w w' : World} {B g : Nat} {p : Pk} (h : PSt w B g p) (hk : PkAt w' g (stepP p).1) (hb : BelowX w.heap.size g w w') : PSt w' B g (stepP p).1 ∧ Does (p.own g) ((stepP p).1.own g) w w' := by
  obtain ⟨-, -, h3, h4, h5, h6, h7, h8, h9⟩ := step_vm p
  exact h.turned hk hb h4 h3 h5 h6 h7 h8 (step_left p h.left) (by rw [h9]; exact h.room)
theorem findE_vm (p : Pk) (s : ByteArray) : findE p s = p.vm.hinder [s] s := by
  have e : p.vm.hinder [s] s = if readyE p.down [s] ≠ 0 then readyE p.down [s] else if (findM s (p.l.map Pf.rd)).isNone then 22 else 0 := rfl
  rw [e]
  unfold findE
  cases hf : vfindP s p.l with
  | none => rw [findM_none hf]; rfl
  | some q =>
    obtain ⟨i, h1, -⟩ := findM_P hf
    rw [h1]
    rfl
theorem findE_ok {p : Pk} {s : ByteArray} (h : findE p s = 0) : readyE p.down [s] = 0 ∧ ∃ q, vfindP s p.l = some q := by
  unfold findE at h
  by_cases h0 : readyE p.down [s] = 0
  · rw [h0] at h
    cases hf : vfindP s p.l with
    | none => rw [hf] at h; cases h
    | some q => exact ⟨h0, q, rfl⟩
  · rw [if_pos h0] at h
    exact absurd h h0
/-- VTwo files apart have no block in common. -/
theorem apart_own {w : World} {B C : Nat} {q x : Pf} (hq : FileOk w B q) (hx : FileOk w C x) (h : Apart q x) : ∀ k, q.own k → ¬ x.own k := fun k h1 h2 => by
  have f1 := hq.at_
  have f2 := hx.at_
  unfold FileAt at f1 f2
  rcases h1 with e1 | ⟨ad, ha, e1⟩ <;> rcases h2 with e2 | ⟨bd, hb, e2⟩
  · exact h.1 (by rw [← e1, ← e2])
  · obtain ⟨cur, hc⟩ := own_type hx.row hb
    rw [← e2, e1, f1] at hc
    injection hc with hc
    injection hc with _ hc
    exact absurd hc (by decide)
  · obtain ⟨cur, hc⟩ := own_type hq.row ha
    rw [← e1, e2, f2] at hc
    injection hc with hc
    injection hc with _ hc
    exact absurd hc (by decide)
  · exact h.2 ad bd ha hb (by rw [← e1, ← e2])
theorem In7.not_keep {w : World} {B C : Nat} {p : Pk} {q : Pf} (h : In7 w B p) (hq : FileOk w C q) : ∀ ad, p.K = some ad → ¬ q.own ad.block := fun ad hA hk => by
  obtain ⟨cur, hc⟩ := own_type h.keep hA
  rcases hk with e | ⟨bd, hb, e⟩
  · have f1 := hq.at_
    unfold FileAt at f1
    rw [e, f1] at hc
    injection hc with hc
    injection hc with _ hc
    exact absurd hc (by decide)
  · obtain ⟨cur2, hc2⟩ := own_type hq.row hb
    rw [e, hc2] at hc
    injection hc with hc
    injection hc with _ hc
    exact absurd hc (by decide)
/-- One file laid anew. -/
theorem In7.reput {w w' : World} {B i : Nat} {p : Pk} {q q' : Pf} (h : In7 w B p) (hq : p.l[i]? = some q) (hs : q'.s = q.s) (hh : q'.h = q.h) (hok : FileOk w' B q') (hrow : ∀ ad, q'.d.a = some ad → q.own ad.block ∨ w.heap.size ≤ ad.block) (hd : ∀ k, p.inner k → ¬ q.own k → w'.heap[k]? = w.heap[k]?) :
    In7 w' B { p with l := p.l.set i q' } := by
  have hm := List.mem_of_getElem? hq
  have hfq := h.file q hm
  have hx : ∀ x ∈ p.l, x.s ≠ q.s → FileOk w' B x ∧ Apart q' x := fun x hx hn => by
    have hfx := h.file x hx
    have ha := h.apart x hx q hm hn
    refine ⟨hfx.of (fun k hk => hd k (.inr (.inr ⟨x, hx, hk⟩)) (fun h2 => apart_own hfx hfq ha k hk h2)), ?_, ?_⟩
    · rw [hh]
      exact fun e => ha.1 e.symm
    · intro ad bd h1 h2 e
      rcases hrow ad h1 with h3 | h3
      · exact apart_own hfx hfq ha ad.block (e ▸ .inr ⟨bd, h2, rfl⟩) h3
      · have := (own_in hfx.row bd h2).2
        omega
  refine ⟨?_, h.mlow, ?_, ?_, h.srt.names (set_names hq hs), own_block h.keep (fun ad hA => hd _ (.inr (.inl ⟨ad, hA, rfl⟩)) (h.not_keep hfq ad hA)), h.ki⟩
  · show w'.ownsMap Tryz.prog 9 ptrElem p.b (p.l.set i q').length (Dm (p.l.set i q'))
    rw [ents_set hq hs hh, List.length_set]
    exact owns_at h.map (hd _ (.inl rfl) (h.not_map.2 q hm))
  · intro x hx2
    rcases mem_setP h.srt hq hs hx2 with e | ⟨h1, h2⟩
    · rw [e]
      exact hok
    · exact (hx x h1 h2).1
  · intro x hx2 y hy2 hn
    rcases mem_setP h.srt hq hs hx2 with ex | ⟨h1, h2⟩ <;> rcases mem_setP h.srt hq hs hy2 with ey | ⟨h3, h4⟩
    · exact absurd (by rw [ex, ey]) hn
    · rw [ex]
      exact (hx y h3 h4).2
    · rw [ey]
      exact (hx x h1 h2).2.symm
    · exact h.apart x h1 y h3 hn
theorem PSt.reput {w w' : World} {B g i : Nat} {p : Pk} {q q' : Pf} (h : PSt w B g p) (hq : p.l[i]? = some q) (hs : q'.s = q.s) (hh : q'.h = q.h) (hok : FileOk w' B q') (hrow : ∀ ad, q'.d.a = some ad → q.own ad.block ∨ w.heap.size ≤ ad.block) (hd : Does q.own q.own w w')
    (hl : q'.d.l.length = q.d.l.length) : PSt w' B g { p with l := p.l.set i q' } ∧ Does (p.own g) (Pk.own { p with l := p.l.set i q' } g) w w' := by
  have hm := List.mem_of_getElem? hq
  have hfq := h.inn.file q hm
  refine ⟨⟨?_, h.low, h.inn.reput hq hs hh hok hrow (fun k hk hn => hd.block k (h.inn.owned k hk).2 hn), ?_, h.left, h.room⟩, ?_⟩
  · exact pk_block (show PkAt w g { p with l := p.l.set i q' } from h.at_) (hd.block g h.at_.lt (fun hk => (h.not_two hfq g hk).1 rfl))
  · show p.size = wrap64 (sumP (p.l.set i q'))
    rw [h.size]
    have e2 : ((p.l.set i q').map Pf.rd).map (fun x => x.2.1.length) = (p.l.map Pf.rd).map (fun x => x.2.1.length) := by
      rw [List.map_map, List.map_map]
      refine List.ext_getElem? fun j => ?_
      rw [List.getElem?_map, List.getElem?_map]
      by_cases e : i = j
      · subst e
        rw [List.getElem?_set_self (List.getElem?_eq_some_iff.1 hq).1, hq]
        simp [Pf.rd, hl]
      · rw [List.getElem?_set_ne e]
    unfold sumP sumM
    rw [e2]
  · refine hd.wider (fun k hk => .inr (.inr (.inr ⟨q, hm, hk⟩))) (fun k hk => ?_)
    rcases hk with e | e | e | ⟨x, hx, hk⟩
    · exact .inl (.inl e)
    · exact .inl (.inr (.inl e))
    · exact .inl (.inr (.inr (.inl e)))
    · rcases List.mem_or_eq_of_mem_set hx with h1 | h1
      · exact .inl (.inr (.inr (.inr ⟨x, h1, hk⟩)))
      · subst h1
        rcases hk with e | ⟨ad, ha, e⟩
        · exact .inl (.inr (.inr (.inr ⟨q, hm, .inl (by rw [e, hh])⟩)))
        · rcases hrow ad ha with h2 | h2
          · exact .inl (.inr (.inr (.inr ⟨q, hm, e ▸ h2⟩)))
          · exact .inr (e ▸ h2)
theorem setP_rd (l : List Pf) (i : Nat) (q : Pf) : (l.set i q).map Pf.rd = (l.map Pf.rd).set i q.rd := by rw [List.map_set]
end Go.Proofs.YtmgggddnfeojmaaGreat
namespace Go.Proofs.YtmgggddnfeojmaaGreat
open Go.RowKit
open Go.Maps
theorem dataM_at {s : ByteArray} {l : List Pf} {q : Pf} (h : vfindP s l = some q) : dataM s (l.map Pf.rd) = q.d.l := by
  obtain ⟨i, h1, h2⟩ := findM_P h
  unfold dataM
  rw [h1]
  simp only [List.getElem?_map, h2, Option.map_some]
  rfl
set_option maxHeartbeats 2000000 in
theorem vread_any (B g : Nat) (p : Pk) (s : ByteArray) (w : World) (h : PSt w B g p) (hs : s.size ≤ 140737488355328) (hlg : ∀ q ∈ p.l, q.d.l.length ≤ 140737488355328) :
    Calls Tryz.prog 29 #[.pointer (some ⟨g, 0, none⟩), .string s] w (Gets w (p.vm.read s)) := by
  have HF := Lib.hid (vfind_any B g p s w h (by omega) (by unfold maxLen; omega))
  have HK := Lib.hid (fun (W : World) (hb : Below w.heap.size w W) => h.kept hb)
  obtain ⟨x, hx⟩ : ∃ x, findE p s = x := ⟨_, rfl⟩
  obtain ⟨v, hv⟩ : ∃ v, findV p s = v := ⟨_, rfl⟩
  obtain ⟨r, hr⟩ : ∃ r, p.vm.read s = r := ⟨_, rfl⟩
  rw [hr]
  rw [hx, hv] at HF
  have HR := Lib.hid (And.intro hr (And.intro hx hv))
  have HL := Lib.hid hlg
  clear h hx hv hr hlg
  by_cases h0 : x = 0
  · subst h0
    obtain ⟨h1, q, hq⟩ := findE_ok HR.out.2.1
    have HV : Hid (r = (q.d.l, 0) ∧ v = .pointer (some ⟨q.h, 0, none⟩)) := Lib.hid (by
      refine ⟨?_, ?_⟩
      · rw [← HR.out.1]
        unfold Vm.read
        rw [← findE_vm, HR.out.2.1, if_neg (by decide), show p.vm.fs = p.l.map Pf.rd from rfl, dataM_at hq]
      · rw [← HR.out.2.2]
        unfold findV
        rw [h1, if_neg (by decide), hq]
        rfl)
    have HQ := Lib.hid (findP_mem hq).1
    clear h1 hq
    have HCL := Lib.hid (fun (W : World) (hb : Below w.heap.size w W) => vclone_any q.d.a q.d.l q.d.l.length q.d.c W rfl ((HK.out W hb).inn.file q HQ.out).row.lies (HL.out q HQ.out))
    have HA := Lib.hid (fun (W : World) (hb : Below w.heap.size w W) => ((HK.out W hb).inn.file q HQ.out).at_.cell.1)
    obtain ⟨qs, qh, ⟨qa, qc, ql⟩, qy⟩ := q
    unfold Sl.val at HA
    simp only at HCL HA HV
    obtain ⟨hv1, hv2⟩ := HV.out
    subst hv2
    obtain ⟨m, hm⟩ : ∃ m, ql.length = m := ⟨_, rfl⟩
    rw [hm] at HCL HA
    have HMM := Lib.hid hm
    clear hv1 hm
    go_enter Tryz.func29, Tryz.ntmps29
    go_wp2_with (first
      | (go_at_call 51; refine HF.out.mono ?_; rintro e w1 ⟨rfl, hb⟩; have B1 := Lib.hid hb; have a0 := HA.out _ hb; clear hb)
      | (go_at_call 42; refine (HCL.out _ B1.out).mono ?_; rintro e w2 ⟨A2, c2, rfl, r2, b2⟩; have R2 := Lib.hid (And.intro r2 b2); clear r2 b2))
    go_ret2
    obtain ⟨r2, b2⟩ := R2.out
    rw [HV.out.1]
    exact ⟨A2, c2, rfl, own_mono r2 B1.out.size, B1.out.trans (b2.mono B1.out.size)⟩
  · have HV : Hid (r = ([], x)) := Lib.hid (by
      rw [← HR.out.1]
      unfold Vm.read
      rw [← findE_vm, HR.out.2.1, if_pos h0])
    have d0 : (x != 0) = true := by simpa using h0
    clear h0
    go_enter Tryz.func29, Tryz.ntmps29
    go_wp2_with (go_at_call 51; refine HF.out.mono ?_; rintro e w1 ⟨rfl, hb⟩; have B1 := Lib.hid hb; clear hb)
    go_ret2
    rw [HV.out]
    exact ⟨none, 0, rfl, Row.nil _ _, B1.out⟩
theorem changeP_vm (p : Pk) (s : ByteArray) : (changeP p s).2.2 = (if findE p s ≠ 0 then findE p s else (stepP p).2) ∧ (changeP p s).1 = (if findE p s ≠ 0 then p else (stepP p).1) := by
  unfold changeP
  by_cases h0 : findE p s = 0
  · by_cases h1 : (stepP p).2 = 0
    · simp [h0, h1]
    · simp [h0, h1]
  · simp [h0]
/-- What hindered a change: nothing is done but that the disk may have crashed. -/
theorem change_bad {w w' : World} {B g : Nat} {p : Pk} {s : ByteArray} {f : List (ByteArray × List Int × Int) → List (ByteArray × List Int × Int)} (h : PSt w B g p) (hk : PkAt w' g (changeP p s).1) (hb : BelowX w.heap.size g w w') (h0 : (changeP p s).2.2 ≠ 0) :
    (p.vm.does (findE p s) f).2 = (changeP p s).2.2 ∧ Rest w B g p (p.vm.does (findE p s) f).1 w' := by
  obtain ⟨e1, e2⟩ := changeP_vm p s
  obtain ⟨s1, s2, -⟩ := step_vm p
  unfold Vm.does
  by_cases h1 : findE p s = 0
  · rw [if_neg (by simp [h1])] at e1 e2
    rw [if_neg (by simp [h1]), e1]
    rw [e1] at h0
    rw [if_pos (by rw [← s2]; exact h0)]
    rw [e2] at hk
    obtain ⟨r1, r2⟩ := h.step hk hb
    exact ⟨s2.symm, _, r1, s1, r2⟩
  · rw [if_pos h1] at e1 e2
    rw [if_pos h1, e1]
    rw [e2] at hk
    obtain ⟨r1, r2⟩ := h.turned hk hb rfl rfl rfl rfl rfl rfl h.left h.room
    exact ⟨rfl, p, r1, rfl, r2⟩
/-- Nothing hindered it. -/
theorem change_good {p : Pk} {s : ByteArray} (h0 : (changeP p s).2.2 = 0) :
    ∃ q i, vfindP s p.l = some q ∧ p.l[i]? = some q ∧ findM s (p.l.map Pf.rd) = some i ∧ (changeP p s).2.1 = .pointer (some ⟨q.h, 0, none⟩) ∧ (changeP p s).1 = (stepP p).1 ∧ findE p s = 0 ∧ ∀ f, p.vm.does (findE p s) f = ({ (stepP p).1.vm with fs := f (p.l.map Pf.rd) }, 0) := by
  obtain ⟨e1, e2⟩ := changeP_vm p s
  obtain ⟨s1, s2, s3, -⟩ := step_vm p
  have h1 : findE p s = 0 := by
    by_cases h1 : findE p s = 0
    · exact h1
    · rw [if_pos h1, h0] at e1
      exact e1.symm
  rw [if_neg (by simp [h1]), h0] at e1
  rw [if_neg (by simp [h1])] at e2
  obtain ⟨h2, q, hq⟩ := findE_ok h1
  obtain ⟨i, h3, h4⟩ := findM_P hq
  refine ⟨q, i, hq, h4, h3, ?_, e2, h1, fun f => ?_⟩
  · unfold changeP
    rw [if_neg (by simp [h1]), if_neg (by simp [e1.symm])]
    unfold findV
    rw [if_neg (by simp [h2]), hq]
    rfl
  · unfold Vm.does
    rw [if_neg (by simp [h1]), if_neg (by rw [← s2, ← e1]; simp), ← s1]
    rfl
set_option maxHeartbeats 2000000 in
theorem sync_any (B g : Nat) (p : Pk) (s : ByteArray) (w : World) (h : PSt w B g p) (hs : s.size ≤ 140737488355328) :
    Calls Tryz.prog 37 #[.pointer (some ⟨g, 0, none⟩), .string s] w fun e w' => e = .returned (.int .i64 (p.vm.sync s).2) ∧ Rest w B g p (p.vm.sync s).1 w' := by
  have HC := Lib.hid (change_any B g p s w h (by omega) (by unfold maxLen; omega))
  have H := Lib.hid h
  obtain ⟨M, hM⟩ : ∃ M, p.vm.sync s = M := ⟨_, rfl⟩
  rw [hM]
  have HM : Hid (p.vm.does (findE p s) (syncM s) = M) := Lib.hid (by rw [← hM, findE_vm]; rfl)
  obtain ⟨c, hc⟩ : ∃ c, changeP p s = c := ⟨_, rfl⟩
  rw [hc] at HC
  have HCC := Lib.hid hc
  obtain ⟨c1, c2, c3⟩ := c
  unfold TurnsV at HC
  simp only at HC
  clear h hM hc
  by_cases h0 : c3 = 0
  · subst h0
    obtain ⟨q, i, hq, hi, hf, hp, h1, he, hv⟩ := change_good (p := p) (s := s) (by rw [HCC.out])
    rw [HCC.out] at hp h1
    simp only at hp h1
    subst hp
    subst h1
    have HST := Lib.hid (fun (w' : World) (hk : PkAt w' g (stepP p).1) (hb : BelowX w.heap.size g w w') => H.out.step hk hb)
    have HL : Hid ((stepP p).1.l = p.l) := Lib.hid (step_vm p).2.2.1
    have HQ : Hid ((stepP p).1.l[i]? = some q ∧ q ∈ (stepP p).1.l) := Lib.hid (by rw [HL.out]; exact ⟨hi, (findP_mem hq).1⟩)
    have HV : Hid (M = ({ (stepP p).1.vm with fs := syncM s (p.l.map Pf.rd) }, 0) ∧ syncM s (p.l.map Pf.rd) = (p.l.set i { q with y := q.d.l.length }).map Pf.rd) := Lib.hid (by
      refine ⟨by rw [← HM.out, hv], ?_⟩
      unfold syncM
      rw [hf, setP_rd]
      simp only [List.getElem?_map, hi, Option.map_some]
      rfl)
    obtain ⟨p1, hp1⟩ : ∃ p1, (stepP p).1 = p1 := ⟨_, rfl⟩
    rw [hp1] at HC HST HL HQ HV
    clear hq hi hf he hv hp1 HCC HM
    obtain ⟨qs, qh, ⟨qa, qc, ql⟩, qy⟩ := q
    simp only at HC HV
    obtain ⟨m, hm⟩ : ∃ m, ql.length = m := ⟨_, rfl⟩
    have HMM := Lib.hid hm
    go_enter Tryz.func37, Tryz.ntmps37
    go_wp2_with (go_at_call 64; refine HC.out.mono ?_; rintro e w1 ⟨rfl, hk, hb⟩; have E1 := Lib.hid (HST.out w1 hk hb); have hfi := (E1.out.1.inn.file _ HQ.out.2).at_; obtain ⟨a0, a1⟩ := hfi.cell; have f1 := hfi.frozen 1; unfold Sl.val at a0; simp only at a0 a1 f1; rw [hm] at a0; clear hk hb hfi)
    go_ret
    rw [HV.out.1]
    refine ⟨rfl, ?_⟩
    have hfi := E1.out.1.inn.file _ HQ.out.2
    have hset : FileOk (w1.setCell ⟨qh, 1, none⟩ (.int .i64 m)) B ⟨qs, qh, ⟨qa, qc, ql⟩, m⟩ :=
      ⟨FileAt.set1 hfi.at_, hfi.low, own_block hfi.row (fun ad ha => Below.heap_setCell w1 ⟨qh, 1, none⟩ _ _ (fun e => by
        obtain ⟨cur, hc⟩ := own_type hfi.row ha
        have := hfi.at_
        unfold FileAt at this
        simp only at e this
        rw [e, this] at hc
        injection hc with hc
        injection hc with _ hc
        exact absurd hc (by decide))), hfi.byt⟩
    obtain ⟨r1, r2⟩ := E1.out.1.reput HQ.out.1 (q' := ⟨qs, qh, ⟨qa, qc, ql⟩, m⟩) rfl rfl hset (fun ad ha => .inl (.inr ⟨ad, ha, rfl⟩)) (does_set (.inl rfl)) rfl
    refine ⟨_, r1, ?_, E1.out.2.trans r2⟩
    rw [HV.out.2, ← HL.out, HMM.out]
    rfl
  · have HB := Lib.hid (fun (w' : World) (hk : PkAt w' g (changeP p s).1) (hb : BelowX w.heap.size g w w') => change_bad (s := s) (f := syncM s) H.out hk hb (by rw [HCC.out]; exact h0))
    rw [HCC.out, HM.out] at HB
    simp only at HB
    have d0 : (c3 != 0) = true := by simpa using h0
    clear h0
    go_enter Tryz.func37, Tryz.ntmps37
    go_wp2_with (go_at_call 64; refine HC.out.mono ?_; rintro e w1 ⟨rfl, hk, hb⟩; have E1 := Lib.hid (HB.out w1 hk hb); clear hk hb)
    go_ret
    rw [E1.out.1]
    exact ⟨rfl, E1.out.2⟩
end Go.Proofs.YtmgggddnfeojmaaGreat
namespace Go.Proofs.YtmgggddnfeojmaaGreat
open Go.RowKit
open Go.Maps
theorem file_made (w : World) (A : Option Addr) (c n : Nat) (L : List Int) (y : Int) (hn : L.length = n) : FileAt (w.alloc (.cells #[.slice A n c, .int .i64 y] 94)) w.heap.size ⟨A, c, L⟩ y := by
  subst hn
  exact heap_alloc_new w _
theorem FileAt.drew {w : World} {h : Nat} {d : Sl} {y : Int} (k : FileAt w h d y) : FileAt w.drew h d y := k
set_option maxRecDepth 100000 in
/-- An append of bytes, which says where the new slice lies. -/
theorem wpList_append_row_at (w : World) {ops : Array Oper} {rest : List Oper} {o : Oper} {a : Act} {Q : Exit → Act → World → Prop} (hgd : o.guard = none) (s x : Operand)
    (ho : o.op = .call { callee := .builtin .append, args := #[s, x], argTypes := #[42, 42] })
    (B : Nat) (A : Option Addr) (c : Nat) (L M : List Int) (C : Option Addr) (n m cm : Nat) (hs : a.eval s = .slice A n c) (hx : a.eval x = .slice C m cm) (en : L.length = n) (em : M.length = m) (h : Row w B A c L) (hm : Bys w C M) (hB : B ≤ w.heap.size) (hr : L.length + M.length ≤ 140737488355328)
    (k : ∀ A' c' w', Row w' B A' c' (L ++ M) → w.grownBy w' (A.map (fun ad => ad.block)) → (∀ ad', A' = some ad' → (∃ ad, A = some ad ∧ ad'.block = ad.block) ∨ w.heap.size ≤ ad'.block) → wpList Tryz.prog ops Q rest (a.put o.dst (.slice A' (n + m) c')) w') : wpList Tryz.prog ops Q (o :: rest) a w := by
  subst en
  subst em
  obtain ⟨i, hi, hz0, hz1, hz2⟩ := info_parts info5
  have hown : ∀ ad, A = some ad → ad = ⟨ad.block, 0, none⟩ := fun ad ha => by
    rcases h.2 with ⟨hn, _⟩ | ⟨g, cap, cur, e, _⟩
    · injection hn with hn
      rw [hn] at ha
      cases ha
    · injection e with e
      rw [e] at ha
      injection ha with ha
      rw [← ha]
  by_cases hne : M = []
  · subst hne
    have hrun := run_append_grown (P := Tryz.prog) w 42 o.type 5 i (.int .u8 0) 1 1 Tryz.underlying42 hi hz0 hz1 hz2 rfl (by decide) B A L.length c (vals L) h C 0 cm (vals []) rfl hm.lies vals_one (by have := (own_cap h).1; unfold maxLen; omega) (by simp at hr; omega) hB
    refine wpList_plain hgd fun K hK => ?_
    have k' := k A c w (by simpa using h) ⟨rfl, rfl, rfl, Nat.le_refl _, fun _ _ _ => rfl⟩ (fun ad' h' => .inl ⟨ad', h', rfl⟩)
    have hr2 : (Builtin.append_ #[42, 42] o.type #[.slice A L.length c, .slice C 0 cm]).run Tryz.prog w = .ok (.slice A L.length c) w := by
      rcases h.2 with ⟨h2, _⟩ | ⟨g, cap, cur, h2, _, _, hnc, _⟩
      · injection h2 with h2 h3 h4
        subst h2
        subst h4
        rw [h3]
        cases C <;> simp [Builtin.append_, run_underlying Tryz.underlying42, sizeOf, typeInfo, hi, Builtin.lenOf, Builtin.firstCells, loadCells, loadCellsFrom]
      · injection h2 with h2 h3 h4
        subst h2
        subst h4
        cases C <;> simp [Builtin.append_, run_underlying Tryz.underlying42, sizeOf, typeInfo, hi, Builtin.lenOf, Builtin.firstCells, loadCells, loadCellsFrom, storeCells, hnc]
    unfold Oper.wp execOp
    simp only [ho, resolve, invoke, builtin, Sem.run_bind, Sem.run_pure, Result.andThen_ok, List.map_toArray, List.map_cons, List.map_nil, hs, hx, List.length_nil, hr2]
    exact hK _ _ k'
  · obtain ⟨ad, rfl, hc⟩ := hm.resolve_left hne
    have hnews : ∀ j u, (vals M)[j]? = some u → w.cell? (ad.add j) = some u := fun j u hu => by
      obtain ⟨x, e1, rfl⟩ := vals_get hu
      exact hc j x e1
    refine wpList_append_own_at w hgd s x 42 ho B 5 i (.int .u8 0) 1 1 Tryz.underlying42 hi hz0 hz1 hz2 rfl (by decide) _ L.length (vals L) hs h ad M.length cm (vals M) hx (by simp [vals_len]) hnews vals_one (by unfold maxLen; omega) (by omega) hB ?_
    intro v' w' hown' hg _ hloc
    have key : ∃ A' c', v' = .slice A' (L.length + M.length) c' := by
      rcases hown'.2 with ⟨rfl, he⟩ | ⟨g, cap, cur, rfl, _⟩
      · exact ⟨none, 0, by rw [he]⟩
      · exact ⟨_, _, rfl⟩
    obtain ⟨A', c', rfl⟩ := key
    have e1 : (Value.slice A L.length c).ownBlock = A.map (fun ad => ad.block) := by
      cases A with
      | none => rfl
      | some b =>
        rw [hown b rfl]
        rfl
    rw [e1] at hg
    refine k A' c' w' (by unfold Row; rw [List.length_append, vals_append]; exact hown') hg (fun ad' ha' => ?_)
    have e2 : (Value.slice A' (L.length + M.length) c').ownBlock = some ad'.block := by
      rcases hown'.2 with ⟨hn, _⟩ | ⟨g, cap, cur, e, _⟩
      · injection hn with hn
        rw [hn] at ha'
        cases ha'
      · injection e with e
        rw [e] at ha'
        injection ha' with ha'
        rw [e, ← ha']
        rfl
    rw [e2, e1] at hloc
    rcases hloc with h1 | h1
    · cases A with
      | none => cases h1
      | some b =>
        injection h1 with h1
        exact .inl ⟨b, rfl, h1⟩
    · injection h1 with h1
      exact .inr (by omega)
theorem PSt.app_mid {w w5 : World} {B g : Nat} {p : Pk} {q : Pf} (h : PSt w B g p) (hm : q ∈ p.l) (hg : w.grownBy w5 (q.d.a.map (fun ad => ad.block))) : FileAt w5 q.h q.d q.y ∧ PkAt w5 g p := by
  have hfq := h.inn.file q hm
  have h5 : ∀ k, k < w.heap.size → ¬ (∃ ad, q.d.a = some ad ∧ k = ad.block) → w5.heap[k]? = w.heap[k]? := fun k hk hn => hg.block k hk (fun e => by
    cases ha : q.d.a with
    | none => rw [ha] at e; cases e
    | some ad =>
      rw [ha] at e
      injection e with e
      exact hn ⟨ad, ha, e⟩)
  refine ⟨?_, pk_block h.at_ (h5 g h.at_.lt (fun ⟨ad, ha, e⟩ => (h.not_two hfq ad.block (.inr ⟨ad, ha, rfl⟩)).1 e.symm))⟩
  have := hfq.at_
  unfold FileAt at this ⊢
  rw [h5 q.h hfq.at_.lt (fun ⟨ad, ha, e⟩ => by
    obtain ⟨cur, hc⟩ := own_type hfq.row ha
    rw [← e, this] at hc
    injection hc with hc
    injection hc with _ hc
    exact absurd hc (by decide)), this]
theorem appM_P {s : ByteArray} {b : List Int} {l : List Pf} {q : Pf} {i : Nat} {A' : Option Addr} {c' : Nat} (hi : findM s (l.map Pf.rd) = some i) (hq : l[i]? = some q) : appM s b (l.map Pf.rd) = (l.set i { q with d := ⟨A', c', q.d.l ++ b⟩ }).map Pf.rd := by
  unfold appM
  rw [hi, setP_rd]
  simp only [List.getElem?_map, hq, Option.map_some]
  rfl
/-- Bytes laid behind a file's. -/
theorem PSt.appended {w w5 : World} {B g i : Nat} {p : Pk} {q : Pf} {A' : Option Addr} {c' : Nat} {b : List Int} (h : PSt w B g p) (hq : p.l[i]? = some q) (hr : Row w5 B A' c' (q.d.l ++ b)) (hg : w.grownBy w5 (q.d.a.map (fun ad => ad.block))) (hloc : ∀ ad', A' = some ad' → (∃ ad, q.d.a = some ad ∧ ad'.block = ad.block) ∨ w.heap.size ≤ ad'.block) (hb : Byt b) :
    PSt ((w5.setCell ⟨q.h, 0, none⟩ (.slice A' (q.d.l ++ b).length c')).setCell ⟨g, 1, none⟩ (.int .i64 (wrap64 (p.size + b.length)))) B g { p with l := p.l.set i { q with d := ⟨A', c', q.d.l ++ b⟩ }, size := wrap64 (p.size + b.length) } ∧
      Does (p.own g) (Pk.own { p with l := p.l.set i { q with d := ⟨A', c', q.d.l ++ b⟩ }, size := wrap64 (p.size + b.length) } g) w ((w5.setCell ⟨q.h, 0, none⟩ (.slice A' (q.d.l ++ b).length c')).setCell ⟨g, 1, none⟩ (.int .i64 (wrap64 (p.size + b.length)))) := by
  have hm := List.mem_of_getElem? hq
  have hfq := h.inn.file q hm
  have hrw : ∀ ad', A' = some ad' → q.own ad'.block ∨ w.heap.size ≤ ad'.block := fun ad' ha => (hloc ad' ha).imp (fun ⟨ad, h1, h2⟩ => .inr ⟨ad, h1, h2⟩) id
  have h5 : ∀ k, k < w.heap.size → ¬ (∃ ad, q.d.a = some ad ∧ k = ad.block) → w5.heap[k]? = w.heap[k]? := fun k hk hn => hg.block k hk (fun e => by
    cases ha : q.d.a with
    | none => rw [ha] at e; cases e
    | some ad =>
      rw [ha] at e
      injection e with e
      exact hn ⟨ad, ha, e⟩)
  have hgq : g ≠ q.h := fun e => (h.not_two hfq q.h (.inl rfl)).1 e.symm
  have hf5 : FileAt w5 q.h q.d q.y := by
    have := hfq.at_
    unfold FileAt at this ⊢
    rw [h5 q.h hfq.at_.lt (fun ⟨ad, ha, e⟩ => by
      obtain ⟨cur, hc⟩ := own_type hfq.row ha
      rw [← e, this] at hc
      injection hc with hc
      injection hc with _ hc
      exact absurd hc (by decide)), this]
  have hg5 : PkAt w5 g p := pk_block h.at_ (h5 g h.at_.lt (fun ⟨ad, ha, e⟩ => (h.not_two hfq ad.block (.inr ⟨ad, ha, rfl⟩)).1 e.symm))
  have hA : ∀ ad', A' = some ad' → ad'.block ≠ q.h ∧ ad'.block ≠ g := fun ad' ha => by
    obtain ⟨cur, hc⟩ := own_type hr ha
    refine ⟨fun e => ?_, fun e => ?_⟩
    · unfold FileAt at hf5
      rw [e, hf5] at hc
      injection hc with hc
      injection hc with _ hc
      exact absurd hc (by decide)
    · unfold PkAt at hg5
      rw [e, hg5] at hc
      injection hc with hc
      injection hc with _ hc
      exact absurd hc (by decide)
  have hcell : ∀ k, k ≠ q.h → k ≠ g → ((w5.setCell ⟨q.h, 0, none⟩ (.slice A' (q.d.l ++ b).length c')).setCell ⟨g, 1, none⟩ (.int .i64 (wrap64 (p.size + b.length)))).heap[k]? = w5.heap[k]? := fun k h1 h2 =>
    (Below.heap_setCell _ ⟨g, 1, none⟩ _ k h2).trans (Below.heap_setCell _ ⟨q.h, 0, none⟩ _ k h1)
  have hok : FileOk ((w5.setCell ⟨q.h, 0, none⟩ (.slice A' (q.d.l ++ b).length c')).setCell ⟨g, 1, none⟩ (.int .i64 (wrap64 (p.size + b.length)))) B { q with d := ⟨A', c', q.d.l ++ b⟩ } := by
    refine ⟨?_, hfq.low, own_block hr (fun ad' ha => hcell _ (hA ad' ha).1 (hA ad' ha).2), hfq.byt.append hb⟩
    have := FileAt.set0 (d' := ⟨A', c', q.d.l ++ b⟩) hf5
    unfold FileAt at this ⊢
    rw [Below.heap_setCell _ ⟨g, 1, none⟩ _ q.h (fun e => hgq e.symm)]
    exact this
  have hin := h.inn.reput (q' := { q with d := ⟨A', c', q.d.l ++ b⟩ }) hq rfl rfl hok hrw (fun k hk hn => (hcell k (fun e => hn (.inl e)) (fun e => h.not_inner (e ▸ hk))).trans (h5 k (h.inn.owned k hk).2 (fun e => hn (.inr e))))
  refine ⟨⟨?_, h.low, ⟨hin.map, hin.mlow, hin.file, hin.apart, hin.srt, hin.keep, hin.ki⟩, ?_, h.left, h.room⟩, ?_⟩
  · have h6 : PkAt (w5.setCell ⟨q.h, 0, none⟩ (.slice A' (q.d.l ++ b).length c')) g p := pk_block hg5 (Below.heap_setCell w5 ⟨q.h, 0, none⟩ _ g hgq)
    exact (show PkAt _ g { p with l := p.l.set i { q with d := ⟨A', c', q.d.l ++ b⟩ } } from h6).set 1 _ rfl
  · show wrap64 (p.size + b.length) = wrap64 (sumP (p.l.set i { q with d := ⟨A', c', q.d.l ++ b⟩ }))
    have e2 : sumP (p.l.set i { q with d := ⟨A', c', q.d.l ++ b⟩ }) = sumP p.l + b.length := by
      have key : ∀ (l : List Pf) (i : Nat), l[i]? = some q → sumM ((l.set i { q with d := ⟨A', c', q.d.l ++ b⟩ }).map Pf.rd) = sumM (l.map Pf.rd) + b.length := by
        intro l
        induction l with
        | nil => intro i h; simp at h
        | cons x l ih =>
          intro i h
          cases i with
          | zero =>
            simp at h
            subst h
            simp [sumM, Pf.rd]
            omega
          | succ i =>
            have := ih i (by simpa using h)
            simp only [sumM, List.set_cons_succ, List.map_cons, List.sum_cons] at this ⊢
            omega
      unfold sumP
      rw [key p.l i hq]
      omega
    rw [e2, h.size]
    unfold wrap64
    omega
  · refine ⟨hg.os, hg.tape, hg.output, by simpa using hg.size, fun k hk hn => ?_, fun k hk => ?_⟩
    · rw [hcell k (fun e => hn (.inr (.inr (.inr ⟨q, hm, .inl e⟩)))) (fun e => hn (.inl e))]
      exact h5 k hk (fun e => hn (.inr (.inr (.inr ⟨q, hm, .inr e⟩))))
    · rcases hk with e | e | e | ⟨x, hx, hk⟩
      · exact .inl (.inl e)
      · exact .inl (.inr (.inl e))
      · exact .inl (.inr (.inr (.inl e)))
      · rcases List.mem_or_eq_of_mem_set hx with h1 | h1
        · exact .inl (.inr (.inr (.inr ⟨x, h1, hk⟩)))
        · subst h1
          rcases hk with e | ⟨ad, ha, e⟩
          · exact .inl (.inr (.inr (.inr ⟨q, hm, .inl e⟩)))
          · rcases hrw ad ha with h2 | h2
            · exact .inl (.inr (.inr (.inr ⟨q, hm, e ▸ h2⟩)))
            · exact .inr (e ▸ h2)
end Go.Proofs.YtmgggddnfeojmaaGreat
