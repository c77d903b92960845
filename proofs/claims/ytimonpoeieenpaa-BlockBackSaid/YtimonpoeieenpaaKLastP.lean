/-
  Pairs that come in, as the walks want them.
-/
import Derived.Test.YtimonpoeieenpaaRows
import Derived.Test.YtimonpoeieenpaaKLast
import Derived.Deep.Slices
import Derived.OpenShut
import Derived.ChangeOld
import Derived.SizedLaws
namespace Go.Proofs.Ytimonpoeieenpaa
open Go.ChangeShapes Go.WideShapes Go.ChangeAt Go.RowKit

theorem list_of {α : Type} {P : Nat → α → Prop} : ∀ n : Nat, (∀ i, i < n → ∃ q, P i q) → ∃ l : List α, l.length = n ∧ ∀ i q, l[i]? = some q → P i q
  | 0, _ => ⟨[], rfl, fun i q h => by simp at h⟩
  | n + 1, h => by
    obtain ⟨l, hl, hp⟩ := list_of n (fun i hi => h i (by omega))
    obtain ⟨q, hq⟩ := h n (by omega)
    refine ⟨l ++ [q], by simp [hl], fun i p hi => ?_⟩
    rcases Nat.lt_or_ge i n with k | k
    · exact hp i p (by rwa [List.getElem?_append_left (by omega)] at hi)
    · have hlt := (List.getElem?_eq_some_iff.1 hi).1
      simp only [List.length_append, List.length_singleton] at hlt
      have e : i = n := by omega
      subst e
      rw [List.getElem?_append_right (by omega), hl] at hi
      simp at hi
      subst hi
      exact hq
theorem weights_all {H : Type} {P : Program} {e : TypeId} {l : List (DataW H)} {d : DataW H} (h : d ∈ l) : ∀ n ∈ d.weights P e, n ∈ DataW.weightsAll P e l := by
  induction l with
  | nil => cases h
  | cons x r ih =>
    intro n hn
    simp only [DataW.weightsAll, List.mem_append]
    rcases List.mem_cons.1 h with k | k
    · subst k
      exact .inl hn
    · exact .inr (ih k n hn)

theorem cells42 : Try.prog.cellsOf 42 = 2 := by kernel_rfl
theorem cells24 : Try.prog.cellsOf 24 = 1 := by kernel_rfl
theorem bytes8 : Try.prog.bytesOf 5 = 1 := by kernel_rfl
theorem bytesPair : Try.prog.bytesOf 42 = 48 := by kernel_rfl

/-- Pairs that come in. -/
structure PsIn (w : World) (A : Option Addr) (l : List Bp) (n c : Nat) : Prop where
  len : l.length = n
  lies : Lies w A (pvals l)
  ins : Ins w l
  few : n * 48 ≤ 140737488351232
  long : ∀ q ∈ l, q.k.l.length ≤ 140737488351232 ∧ q.v.l.length ≤ 140737488351232

section
variable {H : Type} {enc : TypeId × Value → H} {W : World} {fuel : Nat} {cs : List Value} {x : DataW H × List MemPlace}

/-- Bytes, read. -/
theorem open_byts (h : DataW.trod enc Try.prog W 0 (fun _ => true) true fuel 24 cs = some x) :
    ∃ s : Sl, cs = [s.val] ∧ In W s.a s.l s.l.length s.c ∧ ((∀ n ∈ x.1.weights Try.prog 24, n ≤ reachBytes) → s.l.length ≤ 140737488351232) := by
  rcases open_ints Try.underlying24 Try.underlying5 (by kernel_rfl) h with ⟨hc0, hx⟩ | ⟨y, l, d, zs, hc0, _, hl', hm', hz, hxx, hcell, hwz⟩
  · exact ⟨⟨none, 0, []⟩, hc0, in_nil W, fun _ => by simp⟩
  · simp only [if_true] at hz
    have hin := in_row W y l d zs hl' hm' hz hcell hwz
    refine ⟨⟨some y, d, zs.take l⟩, ?_, hin.of_n, fun hw => ?_⟩
    · rw [hc0]
      show _ = [Value.slice (some y) (zs.take l).length d]
      rw [hin.len]
    · have := hw (((lits (H := H) .u8 (zs.take l)).length + (lits (H := H) .u8 (zs.drop l)).length) * Try.prog.bytesOf 5) (by
        rw [hxx]
        simp only [DataW.weights, Try.underlying24]
        exact List.mem_cons_self)
      rw [bytes8] at this
      simp only [lits, List.length_map, reachBytes] at this
      show (zs.take l).length ≤ _
      omega
set_option maxRecDepth 100000 in
/-- A pair, read. -/
theorem open_pair (h : DataW.trod enc Try.prog W 0 (fun _ => true) true fuel 42 cs = some x) :
    ∃ q : Bp, cs = q.cells ∧ (In W q.k.a q.k.l q.k.l.length q.k.c ∧ In W q.v.a q.v.l q.v.l.length q.v.c) ∧ ((∀ n ∈ x.1.weights Try.prog 42, n ≤ reachBytes) → q.k.l.length ≤ 140737488351232 ∧ q.v.l.length ≤ 140737488351232) := by
  obtain ⟨xs, n, -, rfl, hlen, hxl, hf⟩ := DataW.trod_struct Try.underlying42 h
  rw [cells42] at hlen
  have h0 : DataW.trod enc Try.prog W 0 (fun _ => true) true n 24 ((cs.drop 0).take (Try.prog.cellsOf 24)) = xs[0]? := hf 0 _ rfl
  have h1 : DataW.trod enc Try.prog W 0 (fun _ => true) true n 24 ((cs.drop 1).take (Try.prog.cellsOf 24)) = xs[1]? := hf 1 _ rfl
  rw [cells24] at h0 h1
  match cs, hlen, xs, hxl with
  | [u, v], _, [y0, y1], _ =>
    obtain ⟨s, e1, e2, e3⟩ := open_byts (h0.trans rfl)
    obtain ⟨d, f1, f2, f3⟩ := open_byts (h1.trans rfl)
    have a1 : u = s.val := by simpa using e1
    have a2 : v = d.val := by simpa using f1
    subst a1
    subst a2
    refine ⟨⟨s, d⟩, rfl, ⟨e2, f2⟩, fun hw => ⟨e3 (fun m hm => hw m ?_), f3 (fun m hm => hw m ?_)⟩⟩
    · simp only [DataW.weights, Try.underlying42]
      exact DataW.weights_mem_each (j := 0) (t := 24) rfl rfl m hm
    · simp only [DataW.weights, Try.underlying42]
      exact DataW.weights_mem_each (j := 1) (t := 24) rfl rfl m hm
theorem flat_get {α : Type} (f : α → List Value) (k : Nat) (hk : ∀ a, (f a).length = k) (h0 : 0 < k) : ∀ (l : List α) (j : Nat) (u : Value), (l.flatMap f)[j]? = some u → ∃ a, l[j / k]? = some a ∧ (f a)[j % k]? = some u
  | [], j, u, h => by simp at h
  | a :: l, j, u, h => by
    rw [List.flatMap_cons] at h
    by_cases hj : j < k
    · rw [List.getElem?_append_left (by rw [hk]; omega)] at h
      exact ⟨a, by rw [Nat.div_eq_of_lt hj]; rfl, by rw [Nat.mod_eq_of_lt hj]; exact h⟩
    · rw [List.getElem?_append_right (by rw [hk]; omega), hk] at h
      obtain ⟨b, h1, h2⟩ := flat_get f k hk h0 l (j - k) u h
      refine ⟨b, ?_, ?_⟩
      · rw [Nat.div_eq_sub_div h0 (by omega)]
        simpa using h1
      · rw [Nat.mod_eq_sub_mod (by omega)]
        exact h2

/-- A slice of structs, read. -/
theorem open_rows {α : Type} {t e : TypeId} (f : α → List Value) (k : Nat) (hk : ∀ a, (f a).length = k) (h0 : 0 < k) (hc : Try.prog.cellsOf e = k) (ht : Try.prog.underlying t = some (.slice e)) (h : DataW.trod enc Try.prog W 0 (fun _ => true) true fuel t cs = some x) (A : Option Addr) (n c : Nat) (hcs : cs = [.slice A n c])
    (P : α → Prop) (hP : ∀ m (cs' : List Value) (y : DataW H × List MemPlace), DataW.trod enc Try.prog W 0 (fun _ => true) true m e cs' = some y → (∀ z ∈ y.1.weights Try.prog e, z ∈ x.1.weights Try.prog t) → ∃ a, cs' = f a ∧ P a) :
    ∃ l : List α, l.length = n ∧ Lies W A (l.flatMap f) ∧ (∀ a ∈ l, P a) ∧ ((∀ z ∈ x.1.weights Try.prog t, z ≤ reachBytes) → n * Try.prog.bytesOf e ≤ reachBytes) := by
  rcases Go.Deep.open_slice ht h with ⟨h1, hx⟩ | ⟨a, len, cap, m, fu, D, Pl, h1, _, hl, hm, hmm, hx, hi⟩
  · rw [h1] at hcs
    injection hcs with e1
    injection e1 with e1 e2 e3
    subst e1 e2 e3
    exact ⟨[], rfl, .inl rfl, fun a h => (List.not_mem_nil h).elim, fun _ => by simp⟩
  · rw [h1] at hcs
    injection hcs with e1
    injection e1 with e1 e2 e3
    subst e1 e2 e3
    simp only [if_true] at hmm
    subst hmm
    rw [hc] at hi
    have hx1 : x.1 = .slice ((List.range len).map D) ((List.range (m - len)).map fun j => D (len + j)) := by rw [hx]
    obtain ⟨l, hll, hq⟩ := list_of (P := fun i (q : α) => P q ∧ ∀ j u, (f q)[j]? = some u → W.cell? (a.add (i * k + j)) = some u) len (fun i hlt => by
      obtain ⟨cs', hc', ht'⟩ := hi i (by omega)
      obtain ⟨_, _, hat⟩ := World.cells?_some hc'
      have hmem : D i ∈ (List.range len).map D := List.mem_map_of_mem (List.mem_range.2 hlt)
      obtain ⟨q, e1, e2⟩ := hP _ _ _ ht' (fun z hz => by
        rw [hx1]
        simp only [DataW.weights, ht]
        exact List.mem_cons_of_mem _ (List.mem_append.2 (.inl (weights_all hmem _ hz))))
      refine ⟨q, e2, fun j u hj => ?_⟩
      have hj3 : j < k := by
        have := (List.getElem?_eq_some_iff.1 hj).1
        rwa [hk] at this
      rw [← add_add, hat j hj3, e1]
      exact hj)
    refine ⟨l, hll, .inr ⟨a, rfl, fun j u hj => ?_⟩, fun q hq' => ?_, fun hw => ?_⟩
    · obtain ⟨q, e1, e2⟩ := flat_get f k hk h0 l j u hj
      have := (hq _ q e1).2 _ u e2
      rwa [show j / k * k + j % k = j by rw [Nat.mul_comm]; exact Nat.div_add_mod j k] at this
    · obtain ⟨i, hi', e⟩ := List.mem_iff_getElem.1 hq'
      exact (hq i q (by rw [List.getElem?_eq_getElem hi', e])).1
    · have := hw ((((List.range len).map D).length + ((List.range (m - len)).map fun j => D (len + j)).length) * Try.prog.bytesOf e) (by
        rw [hx1]
        simp only [DataW.weights, ht]
        exact List.mem_cons_self)
      simp only [List.length_map, List.length_range] at this
      refine Nat.le_trans (Nat.mul_le_mul_right _ ?_) this
      omega
theorem open_pairs (h : DataW.trod enc Try.prog W 0 (fun _ => true) true fuel 22 cs = some x) (hsz : ∀ n ∈ x.1.weights Try.prog 22, n ≤ reachBytes) (A : Option Addr) (n c : Nat) (hcs : cs = [.slice A n c]) : ∃ l, PsIn W A l n c := by
  obtain ⟨l, h1, h2, h3, h4⟩ := open_rows (α := Bp) Bp.cells 2 (fun _ => rfl) (by omega) cells42 Try.underlying22 h A n c hcs (fun q => (In W q.k.a q.k.l q.k.l.length q.k.c ∧ In W q.v.a q.v.l q.v.l.length q.v.c) ∧ q.k.l.length ≤ 140737488351232 ∧ q.v.l.length ≤ 140737488351232) (fun m cs' y hy hw => by
    obtain ⟨q, e1, e2, e5⟩ := open_pair hy
    exact ⟨q, e1, e2, e5 (fun z hz => hsz z (hw z hz))⟩)
  have h7 := h4 hsz
  rw [bytesPair] at h7
  exact ⟨l, h1, h2, fun q hq => (h3 q hq).1, h7, fun q hq => (h3 q hq).2⟩
end

end Go.Proofs.Ytimonpoeieenpaa
