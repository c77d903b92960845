/-
  Bytes, texts, numbers and entries that come in, as the walks want them. Plain: what is seen of entries in order at a number, and what may be forgotten. Walks: what is seen of entries, by the program. Plain: a heap in a list: what goes up, what goes down, the first is the least. Walks: a heap of lists of entries: its length, its order. Walks: a heap of lists of entries: which stands ahead, what changes places. Walks: a heap of lists of entries: two change their places. Walks: a heap of lists of entries: one more is put in. Walks: a heap of lists of entries: the first is taken out. Plain: lists in order, made one: what is kept while the least is taken out. Walks: lists of entries in order, made one by a heap. Walks: lists of entries in order, made one, with memory of its own. Plain: two lists in order made one by taking what is less first.
-/
import Derived.Test.YtcffpkflijpdjaaRows
import Derived.Deep.Slices
import Derived.OpenShut
import Derived.ChangeOld
import Derived.SizedLaws
import Derived.Laws.EntriesVeiled
import Derived.Test.YtcffpkflijpdjaaJO01
import Derived.Test.YtcffpkflijpdjaaJO02
set_option linter.unusedSimpArgs false
set_option linter.unusedVariables false
namespace Go.Proofs.Ytcffpkflijpdjaa
open Go.ChangeShapes Go.WideShapes Go.ChangeAt Go.RowKit
theorem in_row (w : World) (x : Addr) (l c : Nat) (zs : List Int) (hl : l ≤ c) (hm : c ≤ maxLen) (hz : zs.length = c) (hcell : ∀ i, i < zs.length → w.cell? (x.add i) = some (.int .u8 (zs.getD i 0))) (hwz : ∀ n ∈ zs, (Lit.int .u8 n).wf = true) : In w (some x) (zs.take l) l c := by
  refine ⟨by simp; omega, hl, by unfold maxLen at hm; omega, .inr ⟨x, rfl, fun j y hy => ?_⟩, fun y hy => ?_⟩
  · rw [List.getElem?_take] at hy
    split at hy
    · have hj := (List.getElem?_eq_some_iff.1 hy).1
      rw [hcell j hj, List.getD_eq_getElem?_getD, hy]
      rfl
    · cases hy
  · have := hwz y (List.mem_of_mem_take hy)
    simp [Lit.wf, IntKind.min, IntKind.max, IntKind.signed, IntKind.bits] at this
    omega
theorem bulk_one {H : Type} (d : DataW H) : 1 ≤ Rows.uptoBulk d := by
  cases d with
  | lit l => cases l <;> simp [Rows.uptoBulk]
  | nil => simp [Rows.uptoBulk]
  | ptr d => simp [Rows.uptoBulk]
  | slice elems spare => simp [Rows.uptoBulk]
  | agg parts => simp [Rows.uptoBulk]
  | iface t d => simp [Rows.uptoBulk]
  | map entries => simp [Rows.uptoBulk]
  | held h => simp [Rows.uptoBulk]
theorem bulk_in {H : Type} {d : DataW H} {l : List (DataW H)} (h : d ∈ l) : Rows.uptoBulk d ≤ Rows.uptoBulkAll l := by
  induction l with
  | nil => cases h
  | cons x r ih =>
    simp only [Rows.uptoBulkAll]
    rcases List.mem_cons.1 h with e | e
    · subst e
      omega
    · have := ih e
      omega
theorem bulk_length {H : Type} (l : List (DataW H)) : l.length ≤ Rows.uptoBulkAll l := by
  induction l with
  | nil => simp [Rows.uptoBulkAll]
  | cons x r ih =>
    have := bulk_one x
    simp only [Rows.uptoBulkAll, List.length_cons]
    omega
theorem list_of {α : Type} {P : Nat → α → Prop} : ∀ n : Nat, (∀ i, i < n → ∃ q, P i q) → ∃ l : List α, l.length = n ∧ ∀ i q, l[i]? = some q → P i q
  | 0, _ => ⟨[], rfl, fun i q h => by simp at h⟩
  | n + 1, h => by
    obtain ⟨l, hl, hp⟩ := list_of n (fun i hi => h i (by omega))
    obtain ⟨q, hq⟩ := h n (by omega)
    refine ⟨l ++ [q], by simp [hl], fun i p hi => ?_⟩
    rcases Nat.lt_or_ge i n with k | k
    · exact hp i p (by rwa [List.getElem?_append_left (by omega)] at hi)
    · have hlt := (List.getElem?_eq_some_iff.1 hi).1
      simp only [List.length_append, List.length_singleton] at hlt
      have e : i = n := by omega
      subst e
      rw [List.getElem?_append_right (by omega), hl] at hi
      simp at hi
      subst hi
      exact hq
theorem weights_all {H : Type} {P : Program} {e : TypeId} {l : List (DataW H)} {d : DataW H} (h : d ∈ l) : ∀ n ∈ d.weights P e, n ∈ DataW.weightsAll P e l := by
  induction l with
  | nil => cases h
  | cons x r ih =>
    intro n hn
    simp only [DataW.weightsAll, List.mem_append]
    rcases List.mem_cons.1 h with k | k
    · subst k
      exact .inl hn
    · exact .inr (ih k n hn)
theorem cells26 : Try.prog.cellsOf 26 = 4 := by kernel_rfl
theorem cells23 : Try.prog.cellsOf 23 = 1 := by kernel_rfl
theorem cells3 : Try.prog.cellsOf 3 = 1 := by kernel_rfl
theorem cells4 : Try.prog.cellsOf 4 = 1 := by kernel_rfl
theorem bytes8 : Try.prog.bytesOf 5 = 1 := by kernel_rfl
section
variable {H : Type} {enc : TypeId × Value → H} {W : World} {fuel : Nat} {cs : List Value} {x : DataW H × List MemPlace}
/-- Bytes, read. -/
theorem open_byts (h : DataW.trod enc Try.prog W 0 (fun _ => true) true fuel 23 cs = some x) :
    ∃ s : Sl, cs = [s.val] ∧ In W s.a s.l s.l.length s.c ∧ s.l.length + 1 ≤ Rows.uptoBulk x.1 ∧ ((∀ n ∈ x.1.weights Try.prog 23, n ≤ reachBytes) → s.l.length ≤ 140737488351232) := by
  rcases open_ints Try.underlying23 Try.underlying5 (by kernel_rfl) h with ⟨hc0, hx⟩ | ⟨y, l, d, zs, hc0, _, hl', hm', hz, hxx, hcell, hwz⟩
  · exact ⟨⟨none, 0, []⟩, hc0, in_nil W, bulk_one _, fun _ => by simp⟩
  · simp only [if_true] at hz
    have hin := in_row W y l d zs hl' hm' hz hcell hwz
    refine ⟨⟨some y, d, zs.take l⟩, ?_, hin.of_n, ?_, fun hw => ?_⟩
    · rw [hc0]
      show _ = [Value.slice (some y) (zs.take l).length d]
      rw [hin.len]
    · rw [hxx]
      have h2 := bulk_length (H := H) (lits .u8 (zs.take l))
      simp only [lits, List.length_map] at h2
      simp only [Rows.uptoBulk, lits]
      omega
    · have := hw (((lits (H := H) .u8 (zs.take l)).length + (lits (H := H) .u8 (zs.drop l)).length) * Try.prog.bytesOf 5) (by
        rw [hxx]
        simp only [DataW.weights, Try.underlying23]
        exact List.mem_cons_self)
      rw [bytes8] at this
      simp only [lits, List.length_map, reachBytes] at this
      show (zs.take l).length ≤ _
      omega
theorem open_num (h : DataW.trod enc Try.prog W 0 (fun _ => true) true fuel 3 cs = some x) : ∃ k : Int, cs = [.int .i64 k] ∧ -9223372036854775808 ≤ k ∧ k ≤ 9223372036854775807 := by
  obtain ⟨k, e3, e4, e5⟩ := DataW.trod_int Try.underlying3 h
  refine ⟨k, e3, ?_⟩
  simpa [Lit.wf, IntKind.min, IntKind.max, IntKind.signed, IntKind.bits] using e5
set_option maxRecDepth 100000 in
set_option maxRecDepth 100000 in
/-- An entry, read. -/
theorem open_entry (h : DataW.trod enc Try.prog W 0 (fun _ => true) true fuel 26 cs = some x) :
    ∃ q : En, cs = q.cells ∧ (In W q.k.a q.k.l q.k.l.length q.k.c ∧ In W q.v.a q.v.l q.v.l.length q.v.c) ∧ (-9223372036854775808 ≤ q.s ∧ q.s ≤ 9223372036854775807) ∧ q.k.l.length + q.v.l.length + 5 ≤ Rows.uptoBulk x.1 ∧ ((∀ n ∈ x.1.weights Try.prog 26, n ≤ reachBytes) → q.k.l.length ≤ 140737488351232 ∧ q.v.l.length ≤ 140737488351232) := by
  obtain ⟨xs, n, -, rfl, hlen, hxl, hf⟩ := DataW.trod_struct Try.underlying26 h
  rw [cells26] at hlen
  have h0 : DataW.trod enc Try.prog W 0 (fun _ => true) true n 23 ((cs.drop 0).take (Try.prog.cellsOf 23)) = xs[0]? := hf 0 _ rfl
  have h1 : DataW.trod enc Try.prog W 0 (fun _ => true) true n 3 ((cs.drop 1).take (Try.prog.cellsOf 3)) = xs[1]? := hf 1 _ rfl
  have h2 : DataW.trod enc Try.prog W 0 (fun _ => true) true n 4 ((cs.drop 2).take (Try.prog.cellsOf 4)) = xs[2]? := hf 2 _ rfl
  have h3 : DataW.trod enc Try.prog W 0 (fun _ => true) true n 23 ((cs.drop 3).take (Try.prog.cellsOf 23)) = xs[3]? := hf 3 _ rfl
  rw [cells23] at h0 h3
  rw [cells3] at h1
  rw [cells4] at h2
  match cs, hlen, xs, hxl with
  | [u, v, t, r], _, [y0, y1, y2, y3], _ =>
    obtain ⟨s, e1, e2, e3, e4⟩ := open_byts (h0.trans rfl)
    obtain ⟨k, g1, g2⟩ := open_num (h1.trans rfl)
    obtain ⟨b, b1, -⟩ := DataW.trod_bool Try.underlying4 (h2.trans rfl)
    obtain ⟨d, f1, f2, f3, f4⟩ := open_byts (h3.trans rfl)
    have a1 : u = s.val := by simpa using e1
    have a2 : v = .int .i64 k := by simpa using g1
    have a3 : t = .bool b := by simpa using b1
    have a4 : r = d.val := by simpa using f1
    subst a1
    subst a2
    subst a3
    subst a4
    refine ⟨⟨s, k, b, d⟩, rfl, ⟨e2, f2⟩, g2, ?_, fun hw => ⟨e4 (fun m hm => hw m ?_), f4 (fun m hm => hw m ?_)⟩⟩
    · have h4 := bulk_one y1.1
      have h5 := bulk_one y2.1
      simp only [Rows.uptoBulk, Rows.uptoBulkAll, List.map_cons, List.map_nil] at e3 f3 ⊢
      omega
    · simp only [DataW.weights, Try.underlying26]
      exact DataW.weights_mem_each (j := 0) (t := 23) rfl rfl m hm
    · simp only [DataW.weights, Try.underlying26]
      exact DataW.weights_mem_each (j := 3) (t := 23) rfl rfl m hm
theorem bulk_add {α : Type} (f : α → Nat) : ∀ (T : List α) (ds : List (DataW H)), T.length = ds.length → (∀ (i : Nat) (s : α) (d : DataW H), T[i]? = some s → ds[i]? = some d → f s + 1 ≤ Rows.uptoBulk d) → (T.map f).sum + T.length ≤ Rows.uptoBulkAll ds
  | [], [], _, _ => by simp [Rows.uptoBulkAll]
  | [], _ :: _, h, _ => by simp at h
  | _ :: _, [], h, _ => by simp at h
  | s :: T, d :: ds, h, hp => by
    have ih := bulk_add f T ds (by simpa using h) (fun i s d h1 h2 => hp (i + 1) s d (by simpa using h1) (by simpa using h2))
    have h0 := hp 0 s d rfl rfl
    simp only [List.map_cons, List.sum_cons, List.length_cons, Rows.uptoBulkAll] at ih ⊢
    omega
theorem flat_get {α : Type} (f : α → List Value) (k : Nat) (hk : ∀ a, (f a).length = k) (h0 : 0 < k) : ∀ (l : List α) (j : Nat) (u : Value), (l.flatMap f)[j]? = some u → ∃ a, l[j / k]? = some a ∧ (f a)[j % k]? = some u
  | [], j, u, h => by simp at h
  | a :: l, j, u, h => by
    rw [List.flatMap_cons] at h
    by_cases hj : j < k
    · rw [List.getElem?_append_left (by rw [hk]; omega)] at h
      exact ⟨a, by rw [Nat.div_eq_of_lt hj]; rfl, by rw [Nat.mod_eq_of_lt hj]; exact h⟩
    · rw [List.getElem?_append_right (by rw [hk]; omega), hk] at h
      obtain ⟨b, h1, h2⟩ := flat_get f k hk h0 l (j - k) u h
      refine ⟨b, ?_, ?_⟩
      · rw [Nat.div_eq_sub_div h0 (by omega)]
        simpa using h1
      · rw [Nat.mod_eq_sub_mod (by omega)]
        exact h2
/-- A slice of structs, read. -/
theorem open_rows {α : Type} {t e : TypeId} (f : α → List Value) (k : Nat) (hk : ∀ a, (f a).length = k) (h0 : 0 < k) (hc : Try.prog.cellsOf e = k) (ht : Try.prog.underlying t = some (.slice e)) (h : DataW.trod enc Try.prog W 0 (fun _ => true) true fuel t cs = some x) (A : Option Addr) (n c : Nat) (hcs : cs = [.slice A n c])
    (P : α → DataW H → Prop) (hP : ∀ m (cs' : List Value) (y : DataW H × List MemPlace), DataW.trod enc Try.prog W 0 (fun _ => true) true m e cs' = some y → (Rows.uptoBulk y.1 ≤ Rows.uptoBulk x.1) → (∀ z ∈ y.1.weights Try.prog e, z ∈ x.1.weights Try.prog t) → ∃ a, cs' = f a ∧ P a y.1) :
    ∃ l : List α, l.length = n ∧ (n ≤ c ∧ (c : Int) ≤ 9223372036854775807) ∧ Lies W A (l.flatMap f) ∧ ∃ ds : List (DataW H), l.length = ds.length ∧ (∀ (i : Nat) (a : α) (d : DataW H), l[i]? = some a → ds[i]? = some d → P a d) ∧ Rows.uptoBulkAll ds + 1 ≤ Rows.uptoBulk x.1 ∧ ((∀ z ∈ x.1.weights Try.prog t, z ≤ reachBytes) → n * Try.prog.bytesOf e ≤ reachBytes) := by
  rcases Go.Deep.open_slice ht h with ⟨h1, hx⟩ | ⟨a, len, cap, m, fu, D, Pl, h1, _, hl, hm, hmm, hx, hi⟩
  · rw [h1] at hcs
    injection hcs with e1
    injection e1 with e1 e2 e3
    subst e1 e2 e3
    exact ⟨[], rfl, ⟨Nat.le_refl _, by decide⟩, .inl rfl, [], rfl, fun i a d h => by simp at h, by rw [hx]; simp [Rows.uptoBulk, Rows.uptoBulkAll], fun _ => by simp⟩
  · rw [h1] at hcs
    injection hcs with e1
    injection e1 with e1 e2 e3
    subst e1 e2 e3
    simp only [if_true] at hmm
    subst hmm
    rw [hc] at hi
    have hx1 : x.1 = .slice ((List.range len).map D) ((List.range (m - len)).map fun j => D (len + j)) := by rw [hx]
    obtain ⟨l, hll, hq⟩ := list_of (P := fun i (q : α) => P q (D i) ∧ ∀ j u, (f q)[j]? = some u → W.cell? (a.add (i * k + j)) = some u) len (fun i hlt => by
      obtain ⟨cs', hc', ht'⟩ := hi i (by omega)
      obtain ⟨_, _, hat⟩ := World.cells?_some hc'
      have hmem : D i ∈ (List.range len).map D := List.mem_map_of_mem (List.mem_range.2 hlt)
      obtain ⟨q, e1, e2⟩ := hP _ _ _ ht' (by
        rw [hx1]
        have := bulk_in hmem
        simp only [Rows.uptoBulk]
        show Rows.uptoBulk (D i) ≤ _
        omega) (fun z hz => by
        rw [hx1]
        simp only [DataW.weights, ht]
        exact List.mem_cons_of_mem _ (List.mem_append.2 (.inl (weights_all hmem _ hz))))
      refine ⟨q, e2, fun j u hj => ?_⟩
      have hj3 : j < k := by
        have := (List.getElem?_eq_some_iff.1 hj).1
        rwa [hk] at this
      rw [← add_add, hat j hj3, e1]
      exact hj)
    refine ⟨l, hll, ⟨hl, by unfold maxLen at hm; omega⟩, .inr ⟨a, rfl, fun j u hj => ?_⟩, (List.range len).map D, by simp [hll], fun i q d h1 h2 => ?_, ?_, fun hw => ?_⟩
    · obtain ⟨q, e1, e2⟩ := flat_get f k hk h0 l j u hj
      have := (hq _ q e1).2 _ u e2
      rwa [show j / k * k + j % k = j by rw [Nat.mul_comm]; exact Nat.div_add_mod j k] at this
    · have hlt := (List.getElem?_eq_some_iff.1 h1).1
      rw [List.getElem?_map, List.getElem?_range (by omega)] at h2
      simp only [Option.map_some, Option.some.injEq] at h2
      rw [← h2]
      exact (hq i q h1).1
    · rw [hx1]
      simp only [Rows.uptoBulk]
      omega
    · have := hw ((((List.range len).map D).length + ((List.range (m - len)).map fun j => D (len + j)).length) * Try.prog.bytesOf e) (by
        rw [hx1]
        simp only [DataW.weights, ht]
        exact List.mem_cons_self)
      simp only [List.length_map, List.length_range] at this
      refine Nat.le_trans (Nat.mul_le_mul_right _ ?_) this
      omega
end
end Go.Proofs.Ytcffpkflijpdjaa
namespace Go.Proofs.Ytcffpkflijpdjaa
theorem OrdF.pw : ∀ {l : List Er} {p : Er}, OrdF p l ↔ (∀ e ∈ l, GoodE e) ∧ List.Pairwise (fun x y => ordE x y < 0) (p :: l)
  | [], p => by simp [OrdF]
  | e :: l, p => by
    have ih := @OrdF.pw l e
    constructor
    · intro h
      have h1 := OrdF.good h
      have h2 := OrdF.above h
      exact ⟨h1, List.pairwise_cons.2 ⟨h2, (ih.1 h.2.2).2⟩⟩
    · rintro ⟨h1, h2⟩
      obtain ⟨h3, h4⟩ := List.pairwise_cons.1 h2
      exact ⟨h1 e (List.mem_cons_self ..), h3 e (List.mem_cons_self ..), ih.2 ⟨fun x hx => h1 x (List.mem_cons_of_mem _ hx), h4⟩⟩
theorem OrdL.pw : ∀ {l : List Er}, OrdL l ↔ (∀ e ∈ l, GoodE e) ∧ List.Pairwise (fun x y => ordE x y < 0) l
  | [] => by simp [OrdL]
  | e :: l => by
    have := @OrdF.pw l e
    constructor
    · intro h
      obtain ⟨h1, h2⟩ := this.1 h.2
      exact ⟨fun x hx => (List.mem_cons.1 hx).elim (fun e => e ▸ h.1) (h1 x), h2⟩
    · rintro ⟨h1, h2⟩
      exact ⟨h1 e (List.mem_cons_self ..), this.2 ⟨fun x hx => h1 x (List.mem_cons_of_mem _ hx), h2⟩⟩
end Go.Proofs.Ytcffpkflijpdjaa
namespace Go.Proofs.Ytcffpkflijpdjaa
open Go.RowKit
theorem box_four {W : World} {g : Nat} {a b c d : Value} {ty : TypeId} (h : W.heap[g]? = some (.cells #[a, b, c, d] ty (0, 0))) : W.cell? ⟨g, 0, none⟩ = some a ∧ W.cell? ⟨g, 1, none⟩ = some b ∧ W.cell? ⟨g, 2, none⟩ = some c ∧ W.cell? ⟨g, 3, none⟩ = some d := by
  refine ⟨?_, ?_, ?_, ?_⟩ <;> simp [World.cell?, h]
end Go.Proofs.Ytcffpkflijpdjaa
namespace Go.Proofs.Ytcffpkflijpdjaa
/-- Stands ahead of, or at its place. -/
def leE (x y : Er) : Prop := ordE x y ≤ 0
theorem leE_refl (x : Er) : leE x x := by
  unfold leE
  rw [ordE_self]
  exact Int.le_refl _
theorem ordE_same {x x' y : Er} (h : ordE x x' = 0) : ordE x y = ordE x' y := by
  obtain ⟨h1, h2⟩ := ordE_zero.1 h
  unfold ordE
  rw [h1, h2]
theorem leE_trans (x y z : Er) (h : leE x y) (g : leE y z) : leE x z := by
  unfold leE at *
  rcases Int.lt_or_eq_of_le h with h | h
  · rcases Int.lt_or_eq_of_le g with g | g
    · exact Int.le_of_lt (ordE_trans h g)
    · have e := ordE_same (y := x) g
      have f1 := ordE_flip x y
      have f2 := ordE_flip x z
      omega
  · rw [ordE_same h]
    exact g
end Go.Proofs.Ytcffpkflijpdjaa
namespace Go.Proofs.Ytcffpkflijpdjaa
open Go.RowKit
theorem Grow.high {w : World} {B : Nat} {A : Option Addr} {c : Nat} {T : List Gl} (h : Grow w B A c T) (k : Nat) (hk : k ≤ T.length) : Grow w B A c (T.take k) := by
  have hl : (T.take k).length = k := by rw [List.length_take]; omega
  rcases h with ⟨h1, h2⟩
  unfold Grow
  rw [hl]
  refine ⟨by rw [gvals_len, hl]; simp, ?_⟩
  rcases h2 with ⟨e, h0⟩ | ⟨g, cap, cur, e, k1, k2, k3, k4, k5, k6⟩
  · injection e with e1 e2 e3
    subst e1 e3
    have : k = 0 := by omega
    subst this
    exact .inl ⟨rfl, rfl⟩
  · injection e with e1 e2 e3
    subst e1 e3
    refine .inr ⟨g, c, cur, rfl, k1, k2, by omega, k4, k5, ?_⟩
    have e4 : gvals (T.take k) = (gvals T).take k := by simp [gvals, List.map_take]
    rw [e4, ← k6, List.take_take]
    congr 1
    simp
    omega
theorem grow_at {w : World} {B : Nat} {A : Option Addr} {c k : Nat} {T : List Gl} (h : Grow w B A c T) (hk : k < T.length) : ∃ g s, A = some ⟨g, 0, none⟩ ∧ T[k]? = some s ∧ w.cell? ⟨g, k, none⟩ = some s.val ∧ w.frozen? ⟨g, k, none⟩ = false ∧ ∀ u : Gl, Grow (w.setCell ⟨g, k, none⟩ u.val) B A c (T.set k u) := by
  have h' := h
  rcases h.2 with ⟨_, h0⟩ | ⟨g, cap, cur, e, h1, _⟩
  · omega
  · injection e with e1 e2 e3
    subst e1
    subst e3
    unfold Grow at h'
    refine ⟨g, T[k], rfl, List.getElem?_eq_getElem hk, ?_, h'.frozenAt _, fun u => ?_⟩
    · rw [h'.cellAt k (by omega)]
      simp [gvals, hk]
    · have := (h'.stored k u.val).1
      unfold Grow
      have e : (gvals T).set k u.val = gvals (T.set k u) := by simp [gvals, List.map_set]
      rw [List.length_set, ← e]
      exact this
/-- A list that isn't empty, and lies. -/
def GIn (w : World) (s : Gl) : Prop := s.l ≠ [] ∧ Lies w s.a (evals s.l) ∧ EIns w s.l ∧ s.l.length ≤ s.c ∧ (s.c : Int) ≤ 9223372036854775807
theorem GIn.kept {w W : World} {s : Gl} (h : GIn w s) (hb : Below w.heap.size w W) : GIn W s := ⟨h.1, h.2.1.kept hb, h.2.2.1.kept hb, h.2.2.2⟩
theorem GIn.head {w : World} {s : Gl} (h : GIn w s) : ∃ (ad : Addr) (x : En), s.a = some ad ∧ s.l[0]? = some x ∧ AtE w ad x ∧ EIn w x := by
  obtain ⟨x, hx⟩ : ∃ x, s.l[0]? = some x := by
    cases hl : s.l with
    | nil => exact absurd hl h.1
    | cons y l => exact ⟨y, rfl⟩
  obtain ⟨ad, e, hA⟩ := lies_entry h.2.1 hx
  have e0 : ad.add (0 * 4) = ad := by
    obtain ⟨a, b, c⟩ := ad
    rfl
  rw [e0] at hA
  exact ⟨ad, x, e, hx, hA, h.2.2.1 x (List.mem_of_getElem? hx)⟩
/-- The heap, as it lies. -/
structure Hp (w0 W : World) (hb : Nat) (A : Option Addr) (c : Nat) (T : List Gl) : Prop where
  low : w0.heap.size ≤ hb
  obj : W.heap[hb]? = some (.cells #[.slice A T.length c, .func (.func 81) #[] #[]] 128 (0, 0))
  row : Grow W w0.heap.size A c T
  bel : Below w0.heap.size w0 W
  ins : ∀ s ∈ T, GIn w0 s
theorem Hp.kept {w0 W W' : World} {hb : Nat} {A : Option Addr} {c : Nat} {T : List Gl} (h : Hp w0 W hb A c T) (hw : Below W.heap.size W W') : Hp w0 W' hb A c T :=
  ⟨h.low, (hw.block _ (Array.getElem?_eq_some_iff.1 h.obj).1).trans h.obj, h.row.kept hw (Nat.le_refl _), h.bel.trans (hw.mono h.bel.size), h.ins⟩
theorem Hp.cells {w0 W : World} {hb : Nat} {A : Option Addr} {c : Nat} {T : List Gl} (h : Hp w0 W hb A c T) : W.cell? ⟨hb, 0, none⟩ = some (.slice A T.length c) ∧ W.cell? ⟨hb, 1, none⟩ = some (.func (.func 81) #[] #[]) := by
  refine ⟨?_, ?_⟩ <;> simp [World.cell?, h.obj]
end Go.Proofs.Ytcffpkflijpdjaa
namespace Go.Proofs.Ytcffpkflijpdjaa
open Go.RowKit
theorem Hp.at_ {w0 W : World} {hb : Nat} {A : Option Addr} {c : Nat} {T : List Gl} (h : Hp w0 W hb A c T) {i : Nat} {s : Gl} (hs : T[i]? = some s) : ∃ g, A = some ⟨g, 0, none⟩ ∧ W.cell? ⟨g, i, none⟩ = some s.val := by
  obtain ⟨g, s', e, h1, h2, -⟩ := grow_at h.row (List.getElem?_eq_some_iff.1 hs).1
  rw [hs] at h1
  injection h1 with h1
  subst h1
  exact ⟨g, e, h2⟩
end Go.Proofs.Ytcffpkflijpdjaa
namespace Go.Proofs.Ytcffpkflijpdjaa
open Go.RowKit
/-- Rows and boxes of entries stand. -/
def Bes (W W' : World) : Prop := W.heap.size ≤ W'.heap.size ∧ ∀ (g : Nat) (cs : Array Value) (fr : Nat × Nat), W.heap[g]? = some (.cells cs 26 fr) → W'.heap[g]? = some (.cells cs 26 fr)
theorem Bes.refl (W : World) : Bes W W := ⟨Nat.le_refl _, fun _ _ _ h => h⟩
theorem Bes.trans {a b c : World} (h : Bes a b) (k : Bes b c) : Bes a c := ⟨Nat.le_trans h.1 k.1, fun g cs fr e => k.2 g cs fr (h.2 g cs fr e)⟩
theorem Bes.of_below {W W' : World} (h : Below W.heap.size W W') : Bes W W' := ⟨h.size, fun g _ _ e => (h.block g (Array.getElem?_eq_some_iff.1 e).1).trans e⟩
theorem Bes.set {W W' : World} (h : Bes W W') {g i : Nat} {v : Value} {cs : Array Value} {ty : TypeId} {fr : Nat × Nat} (hg : W'.heap[g]? = some (.cells cs ty fr)) (ht : ty ≠ 26) : Bes W (W'.setCell ⟨g, i, none⟩ v) := by
  refine ⟨by simpa using h.1, fun j cs' fr' e => ?_⟩
  have h1 := h.2 j cs' fr' e
  have hne : j ≠ g := fun e' => by
    rw [e', hg] at h1
    injection h1 with h1
    injection h1 with _ h1
    exact ht h1
  rw [Below.heap_setCell W' ⟨g, i, none⟩ v j hne]
  exact h1
theorem grow_obj {w : World} {B c g : Nat} {T : List Gl} (h : Grow w B (some ⟨g, 0, none⟩) c T) : ∃ cur, w.heap[g]? = some (.cells cur 22 (0, 0)) := by
  rcases h.2 with ⟨e, _⟩ | ⟨g', cap, cur, e, _, h2, _⟩
  · cases e
  · injection e with e
    injection e with e
    injection e with e
    subst e
    exact ⟨cur, h2⟩
/-- A place of the heap's row is written. -/
theorem Hp.set {w0 W : World} {hb c g : Nat} {T : List Gl} (h : Hp w0 W hb (some ⟨g, 0, none⟩) c T) {i : Nat} {u : Gl} (hi : i < T.length) (hu : GIn w0 u) : Hp w0 (W.setCell ⟨g, i, none⟩ u.val) hb (some ⟨g, 0, none⟩) c (T.set i u) ∧ Bes W (W.setCell ⟨g, i, none⟩ u.val) ∧ W.frozen? ⟨g, i, none⟩ = false := by
  obtain ⟨g', s, e, -, -, hf, hset⟩ := grow_at h.row hi
  injection e with e
  injection e with e
  subst e
  obtain ⟨cur, hc⟩ := grow_obj h.row
  have hne : hb ≠ g := fun e' => by
    have := h.obj
    rw [e', hc] at this
    injection this with this
    injection this with _ this
    exact absurd this (by decide)
  have hg := (own_in h.row _ rfl).1
  refine ⟨⟨h.low, ?_, hset u, ((Kp.of_below h.bel).set g i u.val (by show ¬ g < _; have : (⟨g, 0, none⟩ : Addr).block = g := rfl; omega)).below (fun _ hk => hk), fun s hs => ?_⟩, (Bes.refl W).set hc (by decide), hf⟩
  · rw [Below.heap_setCell W ⟨g, i, none⟩ u.val hb hne, List.length_set]
    exact h.obj
  · rcases List.mem_or_eq_of_mem_set hs with q | q
    · exact h.ins s q
    · exact q ▸ hu
end Go.Proofs.Ytcffpkflijpdjaa
namespace Go.Proofs.Ytcffpkflijpdjaa
open Go.RowKit
theorem Hp.grown {w0 W w8 : World} {hb c c' : Nat} {A A' : Option Addr} {T : List Gl} {x : Gl} {o : Obj} (h : Hp w0 W hb A c T) (hx : GIn w0 x) (hr : Grow w8 w0.heap.size A' c' (T ++ [x])) (hbel : Below w0.heap.size (W.alloc o) w8) (hg : (W.alloc o).grownBy w8 (Value.slice A T.length c).ownBlock) :
    (w8.cell? ⟨hb, 0, none⟩ = some (.slice A T.length c) ∧ w8.frozen? ⟨hb, 0, none⟩ = false) ∧ Hp w0 (w8.setCell ⟨hb, 0, none⟩ (.slice A' (T.length + 1) c')) hb A' c' (T ++ [x]) ∧ Bes W (w8.setCell ⟨hb, 0, none⟩ (.slice A' (T.length + 1) c')) := by
  have hlt := (Array.getElem?_eq_some_iff.1 h.obj).1
  have hoth : ∀ (j : Nat) (cs : Array Value) (ty : TypeId) (fr : Nat × Nat), W.heap[j]? = some (.cells cs ty fr) → ty ≠ 22 → w8.heap[j]? = some (.cells cs ty fr) := fun j cs ty fr e ht => by
    have hj := (Array.getElem?_eq_some_iff.1 e).1
    rw [hg.block j (by rw [World.size_alloc]; omega) (fun e' => ?_), RowKit.Below.heap_alloc _ _ _ hj, e]
    rcases h.row.2 with ⟨q, _⟩ | ⟨g', cap, cur, q, _, h2, _⟩
    · rw [q] at e'
      simp [Value.ownBlock] at e'
    · rw [q] at e'
      have : j = g' := by simpa [Value.ownBlock] using e'
      subst this
      rw [h2] at e
      injection e with e
      injection e with _ e
      exact ht e.symm
  have ho := hoth hb _ _ _ h.obj (by decide)
  have hne : ∀ ad, A' = some ad → ad.block ≠ hb := fun ad ha e => by
    subst ha
    rcases hr.2 with ⟨q, _⟩ | ⟨g', cap, cur, q, _, h2, _⟩
    · cases q
    · injection q with q
      injection q with q
      subst q
      rw [show g' = hb from e, ho] at h2
      injection h2 with h2
      injection h2 with _ h2
      exact absurd h2 (by decide)
  refine ⟨⟨by simp [World.cell?, ho], by simp [World.frozen?, ho]⟩, ⟨h.low, ?_, ?_, ?_, fun s hs => ?_⟩, ?_⟩
  · rw [List.length_append, List.length_singleton]
    simp [World.setCell, Array.getElem?_modify, ho]
  · exact own_kp hr ((Kp.refl (fun j => j ≠ hb) w8).set hb 0 _ (by simp)) (fun ad ha => hne ad ha)
  · have b := ((h.bel.alloc h.bel.size o).trans hbel)
    exact ((Kp.of_below b).set hb 0 _ (by have := h.low; omega)).below (fun _ hk => hk)
  · rcases List.mem_append.1 hs with q | q
    · exact h.ins s q
    · rw [List.mem_singleton.1 q]; exact hx
  · have hB : Bes W w8 := ⟨by have := hg.size; rw [World.size_alloc] at this; omega, fun g cs fr e => hoth g cs _ fr e (by decide)⟩
    exact hB.set ho (by decide)
end Go.Proofs.Ytcffpkflijpdjaa
namespace Go.Proofs.Ytcffpkflijpdjaa
open Go.RowKit
/-- The heap's row is cut. -/
theorem Hp.cut {w0 W : World} {hb c : Nat} {A : Option Addr} {T : List Gl} (h : Hp w0 W hb A c T) {k : Nat} (hk : k ≤ T.length) : (W.cell? ⟨hb, 0, none⟩ = some (.slice A T.length c) ∧ W.frozen? ⟨hb, 0, none⟩ = false) ∧ Hp w0 (W.setCell ⟨hb, 0, none⟩ (.slice A k c)) hb A c (T.take k) ∧ Bes W (W.setCell ⟨hb, 0, none⟩ (.slice A k c)) := by
  have ho := h.obj
  have hne : ∀ ad, A = some ad → ad.block ≠ hb := fun ad ha e => by
    subst ha
    rcases h.row.2 with ⟨q, _⟩ | ⟨g', cap, cur, q, _, h2, _⟩
    · cases q
    · injection q with q
      injection q with q
      subst q
      rw [show g' = hb from e, ho] at h2
      injection h2 with h2
      injection h2 with _ h2
      exact absurd h2 (by decide)
  refine ⟨⟨by simp [World.cell?, ho], by simp [World.frozen?, ho]⟩, ⟨h.low, ?_, ?_, ?_, fun s hs => h.ins s (List.mem_of_mem_take hs)⟩, (Bes.refl W).set ho (by decide)⟩
  · rw [List.length_take, Nat.min_eq_left hk]
    simp [World.setCell, Array.getElem?_modify, ho]
  · exact own_kp (h.row.high k hk) ((Kp.refl (fun j => j ≠ hb) W).set hb 0 _ (by simp)) (fun ad ha => hne ad ha)
  · exact ((Kp.of_below h.bel).set hb 0 _ (by have := h.low; omega)).below (fun _ hk => hk)
end Go.Proofs.Ytcffpkflijpdjaa
namespace Go.Proofs.Ytcffpkflijpdjaa
/-- No two at one place. -/
def Apt (F : List Er) : Prop := F.Pairwise (fun x y => ordE x y ≠ 0)
theorem apt_perm {F G : List Er} (h : F.Perm G) : Apt F ↔ Apt G := List.Perm.pairwise_iff (fun {x y} e => by have := ordE_flip x y; omega) h
theorem ordL_apt {L : List Er} (h : OrdL L) : Apt L := (OrdL.pw.1 h).2.imp (fun h => by omega)
structure InvM (F M : List Er) (T : List (List Er)) : Prop where
  perm : (M ++ T.flatten).Perm F
  ords : ∀ l ∈ T, OrdL l
  strict : OrdL M
  le : ∀ x ∈ M, ∀ l ∈ T, ∀ y ∈ l, leE x y
theorem InvM.turn {F M : List Er} {T U : List (List Er)} (h : InvM F M T) (hp : U.Perm T) : InvM F M U :=
  ⟨((List.Perm.append_left M hp.flatten)).trans h.perm, fun l hl => h.ords l (hp.mem_iff.1 hl), h.strict, fun x hx l hl => h.le x hx l (hp.mem_iff.1 hl)⟩
theorem InvM.none {F M : List Er} {T : List (List Er)} (h : InvM F M ([] :: T)) : InvM F M T :=
  ⟨by have := h.perm; rwa [List.flatten_cons, List.nil_append] at this, fun l hl => h.ords l (List.mem_cons_of_mem _ hl), h.strict, fun x hx l hl => h.le x hx l (List.mem_cons_of_mem _ hl)⟩
theorem ordL_head {x y : Er} {r : List Er} (h : OrdL (x :: r)) (hy : y ∈ x :: r) : leE x y := by
  rcases List.mem_cons.1 hy with e | e
  · rw [e]; exact leE_refl _
  · have := (List.pairwise_cons.1 (OrdL.pw.1 h).2).1 y e
    unfold leE
    omega
theorem InvM.step {F M : List Er} {x : Er} {r : List Er} {T : List (List Er)} (h : InvM F M ((x :: r) :: T)) (hmin : ∀ l ∈ T, ∀ y, l.head? = some y → leE x y) (hlast : ∀ e, M.getLast? = some e → ordE e x ≠ 0) : InvM F (M ++ [x]) (r :: T) := by
  have ho := h.ords _ (List.mem_cons_self ..)
  refine ⟨?_, fun l hl => ?_, ?_, fun z hz l hl y hy => ?_⟩
  · have := h.perm
    simpa [List.append_assoc] using this
  · rcases List.mem_cons.1 hl with e | e
    · rw [e]; exact OrdL.tail ho
    · exact h.ords l (List.mem_cons_of_mem _ e)
  · refine h.strict.snoc (ho.good x (List.mem_cons_self ..)) (fun e he => ?_)
    have h1 := h.le e (List.mem_of_getLast? he) _ (List.mem_cons_self ..) x (List.mem_cons_self ..)
    have h2 := hlast e he
    unfold leE at h1
    omega
  · have hxy : leE x y := by
      rcases List.mem_cons.1 hl with e | e
      · subst e
        exact ordL_head ho (List.mem_cons_of_mem _ hy)
      · have ho2 := h.ords l (List.mem_cons_of_mem _ e)
        cases l with
        | nil => cases hy
        | cons q l => exact leE_trans _ _ _ (hmin _ e q rfl) (ordL_head ho2 hy)
    rcases List.mem_append.1 hz with e | e
    · exact leE_trans _ _ _ (h.le z e _ (List.mem_cons_self ..) x (List.mem_cons_self ..)) hxy
    · rw [List.mem_singleton.1 e]; exact hxy
theorem InvM.done {F M : List Er} (h : InvM F M []) : OrdL M ∧ M.Perm F := ⟨h.strict, by simpa using h.perm⟩
/-- Two lists in order, of the same entries, are one. -/
theorem sorted_one : ∀ {L M : List Er}, List.Pairwise (fun x y => ordE x y < 0) L → List.Pairwise leE M → L.Perm M → L = M
  | [], M, _, _, h => by simpa using h.symm.eq_nil.symm
  | x :: L, [], _, _, h => by simp at h
  | x :: L, y :: M, h1, h2, h => by
    obtain ⟨h3, h4⟩ := List.pairwise_cons.1 h1
    obtain ⟨h5, h6⟩ := List.pairwise_cons.1 h2
    have hxy : x = y := by
      have hx : x ∈ y :: M := h.mem_iff.1 (List.mem_cons_self ..)
      have hy : y ∈ x :: L := h.mem_iff.2 (List.mem_cons_self ..)
      rcases List.mem_cons.1 hy with e | e
      · exact e.symm
      · rcases List.mem_cons.1 hx with e' | e'
        · exact e'
        · have a1 := h3 y e
          have a2 := h5 x e'
          unfold leE at a2
          have := ordE_flip x y
          omega
    subst hxy
    rw [sorted_one h4 h6 (List.Perm.cons_inv h)]
end Go.Proofs.Ytcffpkflijpdjaa
namespace Go.Proofs.Ytcffpkflijpdjaa
open Go.RowKit
theorem sizeEn' (W : World) : (sizeOf (Try.prog.elem 22)).run Try.prog W = .ok 4 W := by
  have h : Try.prog.elem 22 = 26 := by kernel_rfl
  obtain ⟨i, hi, hz0, hz1, hz2⟩ := info_parts info26
  rw [h]
  simp [sizeOf, typeInfo, hi, hz1]
theorem underEn' : Try.prog.underlying 22 = some (.slice (Try.prog.elem 22)) := by kernel_rfl
/-- e[s:] -/
theorem slice_lowS (A : Option Addr) (s n c : Nat) (hs : s ≤ n) (hc : n ≤ c) : ∀ W, (Instr.slice 22 (.slice A n c) (some (.int .i64 (s : Int))) none none).run Try.prog W = .ok (.slice (if c = s then A else A.map (·.add (s * 4))) (n - s) (c - s)) W := fun W => by
  rw [run_slice_l (P := Try.prog) W _ A n c underEn' .i64 (s : Int) (by omega) (by omega), sizeEn']
  simp [Result.andThen, sliced]
def lenV : Value → Nat
  | .slice _ n _ => n
  | _ => 0
/-- Lists that come in. -/
structure LsIn (w : World) (A : Option Addr) (Ls : List Gl) (n c : Nat) : Prop where
  len : Ls.length = n
  lies : Lies w A (gvals Ls)
  each : ∀ g ∈ Ls, Lies w g.a (evals g.l) ∧ EIns w g.l ∧ g.l.length ≤ g.c ∧ (g.c : Int) ≤ 9223372036854775807
def flat (Ls : List Gl) : List Er := (gets Ls).flatMap ers
def fl (T : List Gl) : List (List Er) := T.map (fun g => ers g.l)
theorem flat_fl (Ls : List Gl) : (fl Ls).flatten = flat Ls := by
  unfold flat fl gets
  induction Ls with
  | nil => rfl
  | cons a l ih => simp [ih]
theorem GIn.rest {w : World} {sd : Addr} {sc : Nat} {x : En} {r : List En} (h : GIn w ⟨some sd, sc, x :: r⟩) (hr : 1 < (x :: r).length) : GIn w ⟨some (sd.add (1 * 4)), sc - 1, r⟩ := by
  have h4 : (x :: r).length ≤ sc := h.2.2.2.1
  have h5 : (sc : Int) ≤ 9223372036854775807 := h.2.2.2.2
  simp only [List.length_cons] at hr h4
  have hd := lies_drop (c := sc) h.2.1 1 (by simpa using h4)
  rw [if_neg (by omega)] at hd
  refine ⟨?_, hd, fun q hq => h.2.2.1 q (List.mem_cons_of_mem _ hq), ?_, ?_⟩
  · show r ≠ []
    intro e
    subst e
    simp at hr
  · show r.length ≤ sc - 1
    omega
  · show ((sc - 1 : Nat) : Int) ≤ _
    omega
end Go.Proofs.Ytcffpkflijpdjaa
namespace Go.Proofs.Ytcffpkflijpdjaa
open Go.RowKit
theorem add_zero_ (g n : Nat) : (⟨g, 0, none⟩ : Addr).add n = ⟨g, n, none⟩ := by
  unfold Addr.add
  by_cases h : n = 0
  · subst h; rfl
  · rw [if_neg h]; simp
end Go.Proofs.Ytcffpkflijpdjaa
namespace Go.Proofs.Ytcffpkflijpdjaa
open Go.RowKit
/-- While two lists in order are made one. -/
structure InvS (l M la lb : List En) : Prop where
  perm : (M ++ (la ++ lb)).Perm l
  one : List.Pairwise leE (ers (M ++ la))
  two : List.Pairwise leE (ers (M ++ lb))
theorem pw_put {M m : List En} {x : En} (h : List.Pairwise leE (ers (M ++ m))) (hx : ∀ y ∈ ers M, leE y x.rd) (hm : ∀ y, m.head? = some y → leE x.rd y.rd) : List.Pairwise leE (ers ((M ++ [x]) ++ m)) := by
  rw [ers_append, List.pairwise_append] at h
  obtain ⟨h1, h2, h3⟩ := h
  have hxm : ∀ y ∈ ers m, leE x.rd y := fun y hy => by
    cases m with
    | nil => cases hy
    | cons z m =>
      have hz := hm z rfl
      rcases List.mem_cons.1 hy with e | e
      · rw [e]; exact hz
      · exact leE_trans _ _ _ hz ((List.pairwise_cons.1 h2).1 y e)
  rw [ers_append, ers_append, List.pairwise_append, List.pairwise_append]
  refine ⟨⟨h1, List.pairwise_singleton _ _, fun y hy z hz => ?_⟩, h2, fun y hy z hz => ?_⟩
  · rw [List.mem_singleton.1 hz]; exact hx y hy
  · rcases List.mem_append.1 hy with e | e
    · exact h3 y e z hz
    · rw [List.mem_singleton.1 e]; exact hxm z hz
theorem pw_ahead {M m : List En} {x : En} (h : List.Pairwise leE (ers (M ++ x :: m))) : ∀ y ∈ ers M, leE y x.rd := fun y hy => by
  rw [ers_append, List.pairwise_append] at h
  exact h.2.2 y hy _ (List.mem_cons_self ..)
theorem InvS.left {l M la lb : List En} {x : En} (h : InvS l M (x :: la) lb) (hle : ∀ y, lb.head? = some y → leE x.rd y.rd) : InvS l (M ++ [x]) la lb :=
  ⟨by have := h.perm; simpa [List.append_assoc] using this, by have := h.one; simpa [List.append_assoc] using this, pw_put h.two (pw_ahead h.one) hle⟩
theorem InvS.right {l M la lb : List En} {x : En} (h : InvS l M la (x :: lb)) (hle : ∀ y, la.head? = some y → leE x.rd y.rd) : InvS l (M ++ [x]) la lb :=
  ⟨by
    refine List.Perm.trans ?_ h.perm
    rw [List.append_assoc]
    exact List.Perm.append_left M (by simpa using (List.perm_middle (l₁ := la) (a := x) (l₂ := lb)).symm), pw_put h.one (pw_ahead h.two) hle, by have := h.two; simpa [List.append_assoc] using this⟩
theorem InvS.start {l la lb a b : List En} (hl : a ++ b = l) (ha : la.Perm a) (hb : lb.Perm b) (sa : List.Pairwise leE (ers la)) (sb : List.Pairwise leE (ers lb)) : InvS l [] la lb :=
  ⟨by rw [List.nil_append, ← hl]; exact ha.append hb, sa, sb⟩
theorem pw_short {l : List En} (h : l.length < 2) : List.Pairwise leE (ers l) := by
  match l, h with
  | [], _ => exact List.Pairwise.nil
  | [x], _ => exact List.pairwise_singleton _ _
theorem leE_of_not {x y : Er} (h : ¬ ordE x y ≤ 0) : leE y x := by
  have := ordE_flip x y
  unfold leE
  omega
/-- l[:k] of entries. -/
theorem slice_highS (A : Option Addr) (k n c : Nat) (hk : k ≤ n) (hc : n ≤ c) : ∀ W, (Instr.slice 22 (.slice A n c) none (some (.int .i64 (k : Int))) none).run Try.prog W = .ok (.slice A k c) W := fun W => by
  rw [run_slice_h (P := Try.prog) W _ A n c underEn' .i64 (k : Int) (by omega) (by omega), sizeEn']
  cases A <;> simp [Result.andThen, sliced, Addr.add]
/-- Entries brought in order. -/
def SrtE (l : List En) (w : World) (e : Ending) (w' : World) : Prop := ∃ (M : List En) (A' : Option Addr) (m c' : Nat), e = .returned (.slice A' m c') ∧ M.length = m ∧ m ≤ c' ∧ (c' : Int) ≤ 9223372036854775807 ∧ Lies w' A' (evals M) ∧ M.Perm l ∧ List.Pairwise leE (ers M) ∧ Below w.heap.size w w'
end Go.Proofs.Ytcffpkflijpdjaa
