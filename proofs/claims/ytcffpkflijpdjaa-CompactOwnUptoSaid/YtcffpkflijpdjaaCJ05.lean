/-
  Bytes, texts, numbers and entries that come in, as the walks want them. Plain: what is seen of entries in order at a number, and what may be forgotten. Walks: is an entry the last of its key up to a number. Walks: what is seen of entries, by the program. Walks: what is seen of entries, by the document. Walks: what is not forgotten of entries, by the program. Walks: what is not forgotten of entries, by the document.
-/
import Derived.Test.YtcffpkflijpdjaaRows
import Derived.Deep.Slices
import Derived.OpenShut
import Derived.ChangeOld
import Derived.SizedLaws
import Derived.Test.YtcffpkflijpdjaaCJ01
import Derived.Test.YtcffpkflijpdjaaCJ04
set_option linter.unusedSimpArgs false
set_option linter.unusedVariables false
namespace Go.Proofs.Ytcffpkflijpdjaa
open Go.ChangeShapes Go.WideShapes Go.ChangeAt Go.RowKit
theorem in_row (w : World) (x : Addr) (l c : Nat) (zs : List Int) (hl : l ≤ c) (hm : c ≤ maxLen) (hz : zs.length = c) (hcell : ∀ i, i < zs.length → w.cell? (x.add i) = some (.int .u8 (zs.getD i 0))) (hwz : ∀ n ∈ zs, (Lit.int .u8 n).wf = true) : In w (some x) (zs.take l) l c := by
  refine ⟨by simp; omega, hl, by unfold maxLen at hm; omega, .inr ⟨x, rfl, fun j y hy => ?_⟩, fun y hy => ?_⟩
  · rw [List.getElem?_take] at hy
    split at hy
    · have hj := (List.getElem?_eq_some_iff.1 hy).1
      rw [hcell j hj, List.getD_eq_getElem?_getD, hy]
      rfl
    · cases hy
  · have := hwz y (List.mem_of_mem_take hy)
    simp [Lit.wf, IntKind.min, IntKind.max, IntKind.signed, IntKind.bits] at this
    omega
theorem bulk_one {H : Type} (d : DataW H) : 1 ≤ Rows.uptoBulk d := by
  cases d with
  | lit l => cases l <;> simp [Rows.uptoBulk]
  | nil => simp [Rows.uptoBulk]
  | ptr d => simp [Rows.uptoBulk]
  | slice elems spare => simp [Rows.uptoBulk]
  | agg parts => simp [Rows.uptoBulk]
  | iface t d => simp [Rows.uptoBulk]
  | map entries => simp [Rows.uptoBulk]
  | held h => simp [Rows.uptoBulk]
theorem bulk_in {H : Type} {d : DataW H} {l : List (DataW H)} (h : d ∈ l) : Rows.uptoBulk d ≤ Rows.uptoBulkAll l := by
  induction l with
  | nil => cases h
  | cons x r ih =>
    simp only [Rows.uptoBulkAll]
    rcases List.mem_cons.1 h with e | e
    · subst e
      omega
    · have := ih e
      omega
theorem bulk_length {H : Type} (l : List (DataW H)) : l.length ≤ Rows.uptoBulkAll l := by
  induction l with
  | nil => simp [Rows.uptoBulkAll]
  | cons x r ih =>
    have := bulk_one x
    simp only [Rows.uptoBulkAll, List.length_cons]
    omega
theorem list_of {α : Type} {P : Nat → α → Prop} : ∀ n : Nat, (∀ i, i < n → ∃ q, P i q) → ∃ l : List α, l.length = n ∧ ∀ i q, l[i]? = some q → P i q
  | 0, _ => ⟨[], rfl, fun i q h => by simp at h⟩
  | n + 1, h => by
    obtain ⟨l, hl, hp⟩ := list_of n (fun i hi => h i (by omega))
    obtain ⟨q, hq⟩ := h n (by omega)
    refine ⟨l ++ [q], by simp [hl], fun i p hi => ?_⟩
    rcases Nat.lt_or_ge i n with k | k
    · exact hp i p (by rwa [List.getElem?_append_left (by omega)] at hi)
    · have hlt := (List.getElem?_eq_some_iff.1 hi).1
      simp only [List.length_append, List.length_singleton] at hlt
      have e : i = n := by omega
      subst e
      rw [List.getElem?_append_right (by omega), hl] at hi
      simp at hi
      subst hi
      exact hq
theorem weights_all {H : Type} {P : Program} {e : TypeId} {l : List (DataW H)} {d : DataW H} (h : d ∈ l) : ∀ n ∈ d.weights P e, n ∈ DataW.weightsAll P e l := by
  induction l with
  | nil => cases h
  | cons x r ih =>
    intro n hn
    simp only [DataW.weightsAll, List.mem_append]
    rcases List.mem_cons.1 h with k | k
    · subst k
      exact .inl hn
    · exact .inr (ih k n hn)
theorem cells26 : Try.prog.cellsOf 26 = 4 := by kernel_rfl
theorem cells23 : Try.prog.cellsOf 23 = 1 := by kernel_rfl
theorem cells3 : Try.prog.cellsOf 3 = 1 := by kernel_rfl
theorem cells4 : Try.prog.cellsOf 4 = 1 := by kernel_rfl
theorem bytes8 : Try.prog.bytesOf 5 = 1 := by kernel_rfl
section
variable {H : Type} {enc : TypeId × Value → H} {W : World} {fuel : Nat} {cs : List Value} {x : DataW H × List MemPlace}
/-- Bytes, read. -/
theorem open_byts (h : DataW.trod enc Try.prog W 0 (fun _ => true) true fuel 23 cs = some x) :
    ∃ s : Sl, cs = [s.val] ∧ In W s.a s.l s.l.length s.c ∧ s.l.length + 1 ≤ Rows.uptoBulk x.1 ∧ ((∀ n ∈ x.1.weights Try.prog 23, n ≤ reachBytes) → s.l.length ≤ 140737488351232) := by
  rcases open_ints Try.underlying23 Try.underlying5 (by kernel_rfl) h with ⟨hc0, hx⟩ | ⟨y, l, d, zs, hc0, _, hl', hm', hz, hxx, hcell, hwz⟩
  · exact ⟨⟨none, 0, []⟩, hc0, in_nil W, bulk_one _, fun _ => by simp⟩
  · simp only [if_true] at hz
    have hin := in_row W y l d zs hl' hm' hz hcell hwz
    refine ⟨⟨some y, d, zs.take l⟩, ?_, hin.of_n, ?_, fun hw => ?_⟩
    · rw [hc0]
      show _ = [Value.slice (some y) (zs.take l).length d]
      rw [hin.len]
    · rw [hxx]
      have h2 := bulk_length (H := H) (lits .u8 (zs.take l))
      simp only [lits, List.length_map] at h2
      simp only [Rows.uptoBulk, lits]
      omega
    · have := hw (((lits (H := H) .u8 (zs.take l)).length + (lits (H := H) .u8 (zs.drop l)).length) * Try.prog.bytesOf 5) (by
        rw [hxx]
        simp only [DataW.weights, Try.underlying23]
        exact List.mem_cons_self)
      rw [bytes8] at this
      simp only [lits, List.length_map, reachBytes] at this
      show (zs.take l).length ≤ _
      omega
theorem open_num (h : DataW.trod enc Try.prog W 0 (fun _ => true) true fuel 3 cs = some x) : ∃ k : Int, cs = [.int .i64 k] ∧ -9223372036854775808 ≤ k ∧ k ≤ 9223372036854775807 := by
  obtain ⟨k, e3, e4, e5⟩ := DataW.trod_int Try.underlying3 h
  refine ⟨k, e3, ?_⟩
  simpa [Lit.wf, IntKind.min, IntKind.max, IntKind.signed, IntKind.bits] using e5
set_option maxRecDepth 100000 in
set_option maxRecDepth 100000 in
/-- An entry, read. -/
theorem open_entry (h : DataW.trod enc Try.prog W 0 (fun _ => true) true fuel 26 cs = some x) :
    ∃ q : En, cs = q.cells ∧ (In W q.k.a q.k.l q.k.l.length q.k.c ∧ In W q.v.a q.v.l q.v.l.length q.v.c) ∧ (-9223372036854775808 ≤ q.s ∧ q.s ≤ 9223372036854775807) ∧ q.k.l.length + q.v.l.length + 5 ≤ Rows.uptoBulk x.1 ∧ ((∀ n ∈ x.1.weights Try.prog 26, n ≤ reachBytes) → q.k.l.length ≤ 140737488351232 ∧ q.v.l.length ≤ 140737488351232) := by
  obtain ⟨xs, n, -, rfl, hlen, hxl, hf⟩ := DataW.trod_struct Try.underlying26 h
  rw [cells26] at hlen
  have h0 : DataW.trod enc Try.prog W 0 (fun _ => true) true n 23 ((cs.drop 0).take (Try.prog.cellsOf 23)) = xs[0]? := hf 0 _ rfl
  have h1 : DataW.trod enc Try.prog W 0 (fun _ => true) true n 3 ((cs.drop 1).take (Try.prog.cellsOf 3)) = xs[1]? := hf 1 _ rfl
  have h2 : DataW.trod enc Try.prog W 0 (fun _ => true) true n 4 ((cs.drop 2).take (Try.prog.cellsOf 4)) = xs[2]? := hf 2 _ rfl
  have h3 : DataW.trod enc Try.prog W 0 (fun _ => true) true n 23 ((cs.drop 3).take (Try.prog.cellsOf 23)) = xs[3]? := hf 3 _ rfl
  rw [cells23] at h0 h3
  rw [cells3] at h1
  rw [cells4] at h2
  match cs, hlen, xs, hxl with
  | [u, v, t, r], _, [y0, y1, y2, y3], _ =>
    obtain ⟨s, e1, e2, e3, e4⟩ := open_byts (h0.trans rfl)
    obtain ⟨k, g1, g2⟩ := open_num (h1.trans rfl)
    obtain ⟨b, b1, -⟩ := DataW.trod_bool Try.underlying4 (h2.trans rfl)
    obtain ⟨d, f1, f2, f3, f4⟩ := open_byts (h3.trans rfl)
    have a1 : u = s.val := by simpa using e1
    have a2 : v = .int .i64 k := by simpa using g1
    have a3 : t = .bool b := by simpa using b1
    have a4 : r = d.val := by simpa using f1
    subst a1
    subst a2
    subst a3
    subst a4
    refine ⟨⟨s, k, b, d⟩, rfl, ⟨e2, f2⟩, g2, ?_, fun hw => ⟨e4 (fun m hm => hw m ?_), f4 (fun m hm => hw m ?_)⟩⟩
    · have h4 := bulk_one y1.1
      have h5 := bulk_one y2.1
      simp only [Rows.uptoBulk, Rows.uptoBulkAll, List.map_cons, List.map_nil] at e3 f3 ⊢
      omega
    · simp only [DataW.weights, Try.underlying26]
      exact DataW.weights_mem_each (j := 0) (t := 23) rfl rfl m hm
    · simp only [DataW.weights, Try.underlying26]
      exact DataW.weights_mem_each (j := 3) (t := 23) rfl rfl m hm
theorem bulk_add {α : Type} (f : α → Nat) : ∀ (T : List α) (ds : List (DataW H)), T.length = ds.length → (∀ (i : Nat) (s : α) (d : DataW H), T[i]? = some s → ds[i]? = some d → f s + 1 ≤ Rows.uptoBulk d) → (T.map f).sum + T.length ≤ Rows.uptoBulkAll ds
  | [], [], _, _ => by simp [Rows.uptoBulkAll]
  | [], _ :: _, h, _ => by simp at h
  | _ :: _, [], h, _ => by simp at h
  | s :: T, d :: ds, h, hp => by
    have ih := bulk_add f T ds (by simpa using h) (fun i s d h1 h2 => hp (i + 1) s d (by simpa using h1) (by simpa using h2))
    have h0 := hp 0 s d rfl rfl
    simp only [List.map_cons, List.sum_cons, List.length_cons, Rows.uptoBulkAll] at ih ⊢
    omega
theorem flat_get {α : Type} (f : α → List Value) (k : Nat) (hk : ∀ a, (f a).length = k) (h0 : 0 < k) : ∀ (l : List α) (j : Nat) (u : Value), (l.flatMap f)[j]? = some u → ∃ a, l[j / k]? = some a ∧ (f a)[j % k]? = some u
  | [], j, u, h => by simp at h
  | a :: l, j, u, h => by
    rw [List.flatMap_cons] at h
    by_cases hj : j < k
    · rw [List.getElem?_append_left (by rw [hk]; omega)] at h
      exact ⟨a, by rw [Nat.div_eq_of_lt hj]; rfl, by rw [Nat.mod_eq_of_lt hj]; exact h⟩
    · rw [List.getElem?_append_right (by rw [hk]; omega), hk] at h
      obtain ⟨b, h1, h2⟩ := flat_get f k hk h0 l (j - k) u h
      refine ⟨b, ?_, ?_⟩
      · rw [Nat.div_eq_sub_div h0 (by omega)]
        simpa using h1
      · rw [Nat.mod_eq_sub_mod (by omega)]
        exact h2
/-- A slice of structs, read. -/
theorem open_rows {α : Type} {t e : TypeId} (f : α → List Value) (k : Nat) (hk : ∀ a, (f a).length = k) (h0 : 0 < k) (hc : Try.prog.cellsOf e = k) (ht : Try.prog.underlying t = some (.slice e)) (h : DataW.trod enc Try.prog W 0 (fun _ => true) true fuel t cs = some x) (A : Option Addr) (n c : Nat) (hcs : cs = [.slice A n c])
    (P : α → DataW H → Prop) (hP : ∀ m (cs' : List Value) (y : DataW H × List MemPlace), DataW.trod enc Try.prog W 0 (fun _ => true) true m e cs' = some y → (Rows.uptoBulk y.1 ≤ Rows.uptoBulk x.1) → (∀ z ∈ y.1.weights Try.prog e, z ∈ x.1.weights Try.prog t) → ∃ a, cs' = f a ∧ P a y.1) :
    ∃ l : List α, l.length = n ∧ (n ≤ c ∧ (c : Int) ≤ 9223372036854775807) ∧ Lies W A (l.flatMap f) ∧ ∃ ds : List (DataW H), l.length = ds.length ∧ (∀ (i : Nat) (a : α) (d : DataW H), l[i]? = some a → ds[i]? = some d → P a d) ∧ Rows.uptoBulkAll ds + 1 ≤ Rows.uptoBulk x.1 ∧ ((∀ z ∈ x.1.weights Try.prog t, z ≤ reachBytes) → n * Try.prog.bytesOf e ≤ reachBytes) := by
  rcases Go.Deep.open_slice ht h with ⟨h1, hx⟩ | ⟨a, len, cap, m, fu, D, Pl, h1, _, hl, hm, hmm, hx, hi⟩
  · rw [h1] at hcs
    injection hcs with e1
    injection e1 with e1 e2 e3
    subst e1 e2 e3
    exact ⟨[], rfl, ⟨Nat.le_refl _, by decide⟩, .inl rfl, [], rfl, fun i a d h => by simp at h, by rw [hx]; simp [Rows.uptoBulk, Rows.uptoBulkAll], fun _ => by simp⟩
  · rw [h1] at hcs
    injection hcs with e1
    injection e1 with e1 e2 e3
    subst e1 e2 e3
    simp only [if_true] at hmm
    subst hmm
    rw [hc] at hi
    have hx1 : x.1 = .slice ((List.range len).map D) ((List.range (m - len)).map fun j => D (len + j)) := by rw [hx]
    obtain ⟨l, hll, hq⟩ := list_of (P := fun i (q : α) => P q (D i) ∧ ∀ j u, (f q)[j]? = some u → W.cell? (a.add (i * k + j)) = some u) len (fun i hlt => by
      obtain ⟨cs', hc', ht'⟩ := hi i (by omega)
      obtain ⟨_, _, hat⟩ := World.cells?_some hc'
      have hmem : D i ∈ (List.range len).map D := List.mem_map_of_mem (List.mem_range.2 hlt)
      obtain ⟨q, e1, e2⟩ := hP _ _ _ ht' (by
        rw [hx1]
        have := bulk_in hmem
        simp only [Rows.uptoBulk]
        show Rows.uptoBulk (D i) ≤ _
        omega) (fun z hz => by
        rw [hx1]
        simp only [DataW.weights, ht]
        exact List.mem_cons_of_mem _ (List.mem_append.2 (.inl (weights_all hmem _ hz))))
      refine ⟨q, e2, fun j u hj => ?_⟩
      have hj3 : j < k := by
        have := (List.getElem?_eq_some_iff.1 hj).1
        rwa [hk] at this
      rw [← add_add, hat j hj3, e1]
      exact hj)
    refine ⟨l, hll, ⟨hl, by unfold maxLen at hm; omega⟩, .inr ⟨a, rfl, fun j u hj => ?_⟩, (List.range len).map D, by simp [hll], fun i q d h1 h2 => ?_, ?_, fun hw => ?_⟩
    · obtain ⟨q, e1, e2⟩ := flat_get f k hk h0 l j u hj
      have := (hq _ q e1).2 _ u e2
      rwa [show j / k * k + j % k = j by rw [Nat.mul_comm]; exact Nat.div_add_mod j k] at this
    · have hlt := (List.getElem?_eq_some_iff.1 h1).1
      rw [List.getElem?_map, List.getElem?_range (by omega)] at h2
      simp only [Option.map_some, Option.some.injEq] at h2
      rw [← h2]
      exact (hq i q h1).1
    · rw [hx1]
      simp only [Rows.uptoBulk]
      omega
    · have := hw ((((List.range len).map D).length + ((List.range (m - len)).map fun j => D (len + j)).length) * Try.prog.bytesOf e) (by
        rw [hx1]
        simp only [DataW.weights, ht]
        exact List.mem_cons_self)
      simp only [List.length_map, List.length_range] at this
      refine Nat.le_trans (Nat.mul_le_mul_right _ ?_) this
      omega
end
end Go.Proofs.Ytcffpkflijpdjaa
namespace Go.Proofs.Ytcffpkflijpdjaa
/-- Of the entries of one key up to a number the one with the greatest, as one sees it who knows the one ahead. -/
def lastB (p : Option Er) (e : Er) (s : Int) : Bool := decide (e.2.1 ≤ s) && (match p with | none => true | some q => decide (s < q.2.1) || decide (q.1 ≠ e.1))
/-- Those of a list that are wanted by one who knows the one ahead. -/
def pickF (K : Option Er → Er → Bool) : Option Er → List Er → List Er
  | _, [] => []
  | p, e :: l => if K p e = true then e :: pickF K (some e) l else pickF K (some e) l
theorem pickF_snoc (K : Option Er → Er → Bool) : ∀ (l : List Er) (p : Option Er) (e : Er), pickF K p (l ++ [e]) = pickF K p l ++ (if K (l.getLast?.or p) e = true then [e] else [])
  | [], p, e => by cases h : K p e <;> simp [pickF, h]
  | x :: l, p, e => by
    have h : (x :: l).getLast?.or p = l.getLast?.or (some x) := by
      cases l with
      | nil => simp
      | cons y l => rw [List.getLast?_cons_cons]; cases h : (y :: l).getLast? with
        | none => simp at h
        | some z => simp
    have ih := pickF_snoc K l (some x) e
    rw [h]
    simp only [pickF, List.cons_append, ih]
    split <;> simp
theorem pickF_sub (K : Option Er → Er → Bool) : ∀ (l : List Er) (p : Option Er), List.Sublist (pickF K p l) l
  | [], _ => by simp [pickF]
  | x :: l, p => by
    have ih := pickF_sub K l (some x)
    simp only [pickF]
    split
    · exact ih.cons_cons x
    · exact ih.cons x
/-- One more, as a walk sees it. -/
theorem pickF_step {K : Option Er → Er → Bool} {l : List Er} {i : Nat} {e : Er} (h : l[i]? = some e) : pickF K none (l.take (i + 1)) = pickF K none (l.take i) ++ (if K (if i = 0 then none else l[i - 1]?) e = true then [e] else []) := by
  have hlt := (List.getElem?_eq_some_iff.1 h).1
  have e1 : l.take (i + 1) = l.take i ++ [e] := by rw [List.take_add_one, h]; rfl
  have e2 : (l.take i).getLast?.or none = (if i = 0 then none else l[i - 1]?) := by
    rw [Option.or_none, List.getLast?_eq_getElem?, List.length_take, Nat.min_eq_left (by omega)]
    split
    · next h0 => subst h0; simp
    · rw [List.getElem?_take_of_lt (by omega)]
  rw [e1, pickF_snoc, e2]
/-- What is not forgotten. -/
def thinK (m : Int) (b : Bool) (p : Option Er) (e : Er) : Bool := decide (m < e.2.1) || (lastB p e m && !(b && e.2.2.1))
def thinE (m : Int) (b : Bool) (l : List Er) : List Er := pickF (thinK m b) none l
theorem OrdF.pw : ∀ {l : List Er} {p : Er}, OrdF p l ↔ (∀ e ∈ l, GoodE e) ∧ List.Pairwise (fun x y => ordE x y < 0) (p :: l)
  | [], p => by simp [OrdF]
  | e :: l, p => by
    have ih := @OrdF.pw l e
    constructor
    · intro h
      have h1 := OrdF.good h
      have h2 := OrdF.above h
      exact ⟨h1, List.pairwise_cons.2 ⟨h2, (ih.1 h.2.2).2⟩⟩
    · rintro ⟨h1, h2⟩
      obtain ⟨h3, h4⟩ := List.pairwise_cons.1 h2
      exact ⟨h1 e (List.mem_cons_self ..), h3 e (List.mem_cons_self ..), ih.2 ⟨fun x hx => h1 x (List.mem_cons_of_mem _ hx), h4⟩⟩
theorem OrdL.pw : ∀ {l : List Er}, OrdL l ↔ (∀ e ∈ l, GoodE e) ∧ List.Pairwise (fun x y => ordE x y < 0) l
  | [] => by simp [OrdL]
  | e :: l => by
    have := @OrdF.pw l e
    constructor
    · intro h
      obtain ⟨h1, h2⟩ := this.1 h.2
      exact ⟨fun x hx => (List.mem_cons.1 hx).elim (fun e => e ▸ h.1) (h1 x), h2⟩
    · rintro ⟨h1, h2⟩
      exact ⟨h1 e (List.mem_cons_self ..), this.2 ⟨fun x hx => h1 x (List.mem_cons_of_mem _ hx), h2⟩⟩
theorem OrdL.sub {l m : List Er} (h : OrdL l) (hs : List.Sublist m l) : OrdL m := by
  obtain ⟨h1, h2⟩ := OrdL.pw.1 h
  exact OrdL.pw.2 ⟨fun e he => h1 e (hs.subset he), h2.sublist hs⟩
end Go.Proofs.Ytcffpkflijpdjaa
namespace Go.Proofs.Ytcffpkflijpdjaa
open Go.RowKit
/-- The one ahead, if there is one. -/
def aheadE (L : List Er) (i : Nat) : Option Er := if i = 0 then none else L[i - 1]?
theorem lastB_no {p : Option Er} {e : Er} {s : Int} (h : ¬ e.2.1 ≤ s) : lastB p e s = false := by
  unfold lastB
  rw [decide_eq_false h]
  rfl
theorem lastB_none {e : Er} {s : Int} (h : e.2.1 ≤ s) : lastB none e s = true := by
  unfold lastB
  rw [decide_eq_true h]
  rfl
theorem lastB_some {e q : Er} {s : Int} (h : e.2.1 ≤ s) : lastB (some q) e s = (decide (s < q.2.1) || decide (q.1 ≠ e.1)) := by
  unfold lastB
  rw [decide_eq_true h]
  rfl
set_option maxRecDepth 100000 in
set_option maxHeartbeats 4000000 in
theorem isLast_any (A : Option Addr) (l : List En) (n c i : Nat) (s : Int) (x : En) (w : World) (hn : l.length = n) (h : Lies w A (evals l)) (hi : EIns w l) (hl : n * 64 ≤ 140737488351232) (hx : l[i]? = some x) :
    Calls Try.prog 60 #[.slice A n c, .int .i64 i, .int .i64 s] w fun e w' => e = .returned (.bool (lastB (aheadE (ers l) i) x.rd s)) ∧ ∃ q, w' = w.drewN q := by
  have hlt := (List.getElem?_eq_some_iff.1 hx).1
  obtain ⟨ad, rfl, a0, a1, -, -⟩ := lies_entry h hx
  have k0 : (i : Int) < n := by omega
  obtain ⟨b, hb⟩ : ∃ b, lastB (aheadE (ers l) i) x.rd s = b := ⟨_, rfl⟩
  have hr : x.rd.2.1 = x.s := rfl
  rw [hb]
  by_cases hs : s < x.s
  · have d0 : decide (s < x.s) = true := decide_eq_true hs
    have HB : Hid (b = false) := Lib.hid (by rw [← hb]; exact lastB_no (by rw [hr]; omega))
    clear h hi hl hx hb hr hs hn hlt
    go_enter Try.func60, Try.ntmps60
    go_wp2_with fail
    go_ret
    exact ⟨by rw [HB.out]; try rfl, 0, rfl⟩
  have d0 : decide (s < x.s) = false := decide_eq_false hs
  obtain h0 | ⟨j, hj⟩ : i = 0 ∨ ∃ j, i = j + 1 := by
    cases i with
    | zero => exact .inl rfl
    | succ j => exact .inr ⟨j, rfl⟩
  · have HB : Hid (b = true) := Lib.hid (by rw [← hb, aheadE, if_pos h0]; exact lastB_none (by rw [hr]; omega))
    have d1 : ((i : Int) == 0) = true := by simpa using h0
    clear h hi hl hx hb hr hs hn hlt  h0
    go_enter Try.func60, Try.ntmps60
    go_upto_region 3 with fail
    go_quiet (fail)
    go_wp2_with fail
    go_ret
    exact ⟨by rw [HB.out]; try rfl, _, rfl⟩
  have d1 : ((i : Int) == 0) = false := by simp; omega
  have hp := List.getElem?_eq_getElem (l := l) (i := j) (by omega)
  generalize l[j]'(by omega) = p at hp
  have e1 : aheadE (ers l) i = some p.rd := by rw [aheadE, if_neg (by omega), show i - 1 = j by omega]; exact ers_get hp
  have a2 := lies_entry_at h hp
  obtain ⟨b0, b1, -, -⟩ := a2
  have w1 : wrap64 ((i : Int) - 1) = (j : Int) := by unfold wrap64; omega
  have w2 : IntKind.i64.wrap ((i : Int) - 1) = (j : Int) := by rw [IntKind.wrap_i64]; omega
  have j0 : (j : Int) < n := by omega
  have IX := (hi x (List.mem_of_getElem? hx)).1
  have IP := (hi p (List.mem_of_getElem? hp)).1
  obtain ⟨xn, hxn⟩ : ∃ m, x.k.l.length = m := ⟨_, rfl⟩
  obtain ⟨pn, hpn⟩ : ∃ m, p.k.l.length = m := ⟨_, rfl⟩
  rw [hxn] at a0 IX
  rw [hpn] at b0 IP
  by_cases hps : s < p.s
  · have HB : Hid (b = true) := Lib.hid (by rw [← hb, e1, lastB_some (by rw [hr]; omega)]; simp [show p.rd.2.1 = p.s from rfl, hps])
    have d2 : decide (s < p.s) = true := decide_eq_true hps
    clear h hi hl hx hb hr hs hn hlt  hj hp e1 hps hxn hpn IX IP
    go_enter Try.func60, Try.ntmps60
    go_upto_region 3 with fail
    go_quiet (fail)
    go_wp2_with fail
    go_ret
    exact ⟨by rw [HB.out]; try rfl, _, rfl⟩
  have d2 : decide (s < p.s) = false := decide_eq_false hps
  have HB : Hid (b = !decide (p.k.l = x.k.l)) := Lib.hid (by rw [← hb, e1, lastB_some (by rw [hr]; omega)]; simp [show p.rd.2.1 = p.s from rfl, hps, show p.rd.1 = p.k.l from rfl, show x.rd.1 = x.k.l from rfl])
  have HEQ : Hid (∀ q, Calls Try.prog 48 #[.slice p.k.a pn p.k.c, .slice x.k.a xn x.k.c] (w.drewN q) fun e w' => e = .returned (.bool (decide (p.k.l = x.k.l))) ∧ w' = w.drewN q) := Lib.hid (fun q => equal_any _ _ _ _ _ _ _ _ _ (IP.kept (below_drewN (Below.refl _ w) q)) (IX.kept (below_drewN (Below.refl _ w) q)))
  clear h hi hl hx hb hr hs hn hlt  hj hp e1 hps hxn hpn IX IP
  obtain ⟨q, hq⟩ : ∃ q, decide (p.k.l = x.k.l) = q := ⟨_, rfl⟩
  rw [hq] at HB HEQ
  clear hq
  cases q
  all_goals
    go_enter Try.func60, Try.ntmps60
    go_upto_region 3 with fail
    go_quiet (first | (go_at_call 48; refine Calls.quiet_of_same (HEQ.out _)))
    go_wp2_with fail
    go_ret
    exact ⟨by rw [HB.out]; try rfl, _, rfl⟩
end Go.Proofs.Ytcffpkflijpdjaa
namespace Go.Proofs.Ytcffpkflijpdjaa
open Go.RowKit
theorem box_obj {w W : World} {cs : Array Value} {ty : TypeId} (hb : Below (w.alloc (.cells cs ty)).heap.size (w.alloc (.cells cs ty)) W) : W.heap[w.heap.size]? = some (.cells cs ty (0, 0)) :=
  (hb.block w.heap.size (by simp)).trans (heap_alloc_new w _)
theorem box_four {W : World} {g : Nat} {a b c d : Value} {ty : TypeId} (h : W.heap[g]? = some (.cells #[a, b, c, d] ty (0, 0))) : W.cell? ⟨g, 0, none⟩ = some a ∧ W.cell? ⟨g, 1, none⟩ = some b ∧ W.cell? ⟨g, 2, none⟩ = some c ∧ W.cell? ⟨g, 3, none⟩ = some d := by
  refine ⟨?_, ?_, ?_, ?_⟩ <;> simp [World.cell?, h]
end Go.Proofs.Ytcffpkflijpdjaa
namespace Go.Proofs.Ytcffpkflijpdjaa
open Go.RowKit
/-- The one ahead has the key, and is seen already. -/
def skipB (p : Option Er) (e : Er) (s : Int) : Bool := match p with | none => false | some q => decide (q.1 = e.1) && decide (q.2.1 ≤ s)
theorem last_skip (p : Option Er) (e : Er) (s : Int) : lastB p e s = (decide (e.2.1 ≤ s) && !skipB p e s) := by
  unfold lastB skipB
  cases p with
  | none => rfl
  | some q =>
    simp only
    congr 1
    by_cases h1 : q.1 = e.1 <;> by_cases h2 : q.2.1 ≤ s
    · simp [h1, h2, show ¬ s < q.2.1 by omega]
    · simp [h1, h2, show s < q.2.1 by omega]
    · simp [h1]
    · simp [h1]
end Go.Proofs.Ytcffpkflijpdjaa
namespace Go.Proofs.Ytcffpkflijpdjaa
open Go.RowKit
def EMade (ok : Bool) (P : List Er) (w : World) (e : Ending) (w' : World) : Prop := ∃ (l' : List En) (A' : Option Addr) (n' c' : Nat), e = .returned (.tuple #[.slice A' n' c', .int .i64 (if ok = true then 0 else 30)]) ∧ l'.length = n' ∧ ers l' = (if ok = true then P else []) ∧ EMades w' w.heap.size l' ∧ Erow w' w.heap.size A' c' l' ∧ Below w.heap.size w w'
theorem thin_step {L : List Er} {i : Nat} {e : Er} {m : Int} {b : Bool} (h : L[i]? = some e) : pickF (thinK m b) none (L.take (i + 1)) = pickF (thinK m b) none (L.take i) ++ (if thinK m b (aheadE L i) e = true then [e] else []) := pickF_step h
theorem thinK_high {p : Option Er} {e : Er} {m : Int} {b : Bool} (h : m < e.2.1) : thinK m b p e = true := by
  unfold thinK
  rw [decide_eq_true h]
  rfl
theorem thinK_low {p : Option Er} {e : Er} {m : Int} {b : Bool} (h : ¬ m < e.2.1) : thinK m b p e = (lastB p e m && !(b && e.2.2.1)) := by
  unfold thinK
  rw [decide_eq_false h]
  rfl
set_option maxRecDepth 100000 in
set_option maxHeartbeats 8000000 in
theorem thin_any (A : Option Addr) (l : List En) (n c : Nat) (s : Int) (b : Bool) (w : World) (hn : l.length = n) (h : Lies w A (evals l)) (hi : EIns w l) (hf : ∀ q ∈ l, EFit q) (hl : n * 64 ≤ 140737488351232) (hk : ∀ q ∈ l, q.k.l.length ≤ 140737488355328 ∧ q.v.l.length ≤ 140737488355328) :
    Calls Try.prog 33 #[.slice A n c, .int .i64 s, .bool b] w (EMade (decide (OrdL (ers l))) (thinE s b (ers l)) w) := by
  have HMS := Lib.hid (mayStand_any A l n c w hn h hi hf hl)
  obtain ⟨od, hod⟩ : ∃ od, decide (OrdL (ers l)) = od := ⟨_, rfl⟩
  rw [hod] at HMS ⊢
  have HP := Lib.hid (fun (w' : World) (hb : Below w.heap.size w w') => h.kept hb)
  have HI := Lib.hid (fun (w' : World) (hb : Below w.heap.size w w') => hi.kept hb)
  have HK := Lib.hid hk
  have HN := Lib.hid hn
  have HL9 := Lib.hid hl
  clear h hi hn hk hf hod
  cases od
  · go_enter Try.func33, Try.ntmps33
    go_wp2_with (go_at_call 58; refine HMS.out.mono ?_; rintro e w2 ⟨rfl, b2⟩; have B2 := Lib.hid b2; clear b2)
    go_ret2
    exact ⟨[], none, 0, 0, rfl, rfl, rfl, EMades.nil _ _, Erow.nil _ _, B2.out⟩
  go_enter Try.func33, Try.ntmps33
  go_wp2_with (go_at_call 58; refine HMS.out.mono ?_; rintro e w2 ⟨rfl, b2⟩; have B2 := Lib.hid b2; clear b2)
  go_loopw [8, 16] (fun t8 t16 wr => ∃ (k j : Nat) (A2 : Option Addr) (c2 : Nat) (l' : List En), k ≤ n ∧ t16 = .int .i64 k ∧ t8 = .slice A2 j c2 ∧ Hid (l'.length = j ∧ j ≤ k) ∧ Hid (ers l' = pickF (thinK s b) none ((ers l).take k)) ∧ Hid (EMades wr w.heap.size l') ∧ Hid (Erow wr w.heap.size A2 c2 l') ∧ Hid (Below w.heap.size w wr)) (fun _ t16 _ => n - (intOf t16).toNat)
  case atStart => exact ⟨0, 0, none, 0, [], by omega, rfl, rfl, Lib.hid ⟨rfl, Nat.le_refl _⟩, Lib.hid rfl, Lib.hid (EMades.nil _ _), Lib.hid (Erow.nil _ _), B2⟩
  case round =>
    obtain ⟨k, j, A2, c2, l', hk, rfl, rfl, hl2, hr, hm, r2, b2⟩ := hrel
    by_cases hlt : k < n
    · have hq := List.getElem?_eq_getElem (l := l) (i := k) (by have := HN.out; omega)
      generalize l[k]'(by have := HN.out; omega) = x at hq
      obtain ⟨ad, rfl, a0, a1, a2, a3⟩ := lies_entry (HP.out _ b2.out) hq
      have hmem := List.mem_of_getElem? hq
      have HX := Lib.hid (fun (w' : World) (hb : Below w.heap.size w w') => HI.out w' hb x hmem)
      have HXL := Lib.hid (HK.out x hmem)
      have HQ := Lib.hid hq
      have HST : Hid (∀ s, pickF (thinK s b) none ((ers l).take (k + 1)) = pickF (thinK s b) none ((ers l).take k) ++ (if thinK s b (aheadE (ers l) k) x.rd = true then [x.rd] else [])) := Lib.hid (fun s => thin_step (ers_get hq))
      obtain ⟨m, hm2⟩ : ∃ m, x.k.l.length = m := ⟨_, rfl⟩
      obtain ⟨z, hz2⟩ : ∃ z, x.v.l.length = z := ⟨_, rfl⟩
      rw [hm2] at a0
      rw [hz2] at a3
      have HM2 := Lib.hid (And.intro hm2 hz2)
      have k0 : (k : Int) < n := by omega
      have WS : Hid (w.heap.size ≤ wr.heap.size) := Lib.hid b2.out.size
      clear hq hm2 hz2 hmem
      go_upto_region 7 with fail
      obtain ⟨wx, hwx⟩ : ∃ wx, wr.alloc (.cells #[.slice x.k.a m x.k.c, .int .i64 x.s, .bool x.d, .slice x.v.a z x.v.c] 26) = wx := ⟨_, rfl⟩
      have HOB : Hid (∀ W, Below wx.heap.size wx W → W.heap[wr.heap.size]? = some (.cells #[.slice x.k.a m x.k.c, .int .i64 x.s, .bool x.d, .slice x.v.a z x.v.c] 26 (0, 0))) := Lib.hid (fun W hb => by subst hwx; exact box_obj hb)
      have BX : Hid (Below w.heap.size w wx) := Lib.hid (hwx ▸ b2.out.alloc WS.out _)
      have BR : Hid (Below wr.heap.size wr wx) := Lib.hid (hwx ▸ below_new _ _)
      rw [hwx]
      clear hwx a0 a1 a2 a3
      obtain ⟨c0, c1, c2', c3⟩ := box_four (HOB.out wx (Below.refl _ _))
      have HCL : Hid (∀ W, Below wr.heap.size wr W → Calls Try.prog 49 #[.agg #[.slice x.k.a m x.k.c, .int .i64 x.s, .bool x.d, .slice x.v.a z x.v.c]] W (ECop W x)) := Lib.hid (fun W hb => by
        have := eclone_any x W (HX.out W (b2.out.trans (hb.mono WS.out))) HXL.out.1 HXL.out.2
        rwa [En.val_eq, HM2.out.1, HM2.out.2] at this)
      by_cases hs : s < x.s
      · have d1 : decide (s < x.s) = true := decide_eq_true hs
        have HT : Hid (thinK s b (aheadE (ers l) k) x.rd = true) := Lib.hid (thinK_high hs)
        clear hs
        have HB6 : Hid (Below wr.heap.size wr wx) := BR
        go_upto_region 8 with fail
        have RR : Hid (EMades wx w.heap.size l' ∧ Erow wx w.heap.size A2 c2 l') := Lib.hid ⟨hm.out.kept HB6.out (Nat.le_refl _), r2.out.kept HB6.out (Nat.le_refl _)⟩
        have W6 : Hid (Below w.heap.size w wx) := Lib.hid (b2.out.trans (HB6.out.mono WS.out))
        go_wp2_with (first
          | (go_at_call 49; refine (HCL.out _ HB6.out).mono ?_; rintro e w7 ⟨x', hx', rfl, q1, q2, b7⟩; have HXR := Lib.hid hx'; have Q1 := Lib.hid q1; have Q2 := Lib.hid q2; have B7 := Lib.hid b7; rw [En.val_eq]; clear hx' q1 q2 b7 HCL c0 c1 c2' c3)
          | (refine wpList_append_erow _ (by rfl) (.tmp 39) (.tmp 42) (by rfl) w.heap.size A2 c2 l' [x'] _ j 1 1 (by simp [Act.eval]) (by simp [Act.eval]) hl2.out.1 rfl ((RR.out.2.kept B7.out (Nat.le_refl _)).alloc _) (lit_entry w7 x'.k.a x'.v.a x'.k.c x'.v.c x'.k.l x'.v.l x'.s x'.d _ _ rfl rfl) (by have := W6.out.size; have := B7.out.size; simp; omega) (by have := hl2.out; simp only [List.length_singleton]; omega) ?_; intro A8 c8 w8 r8 b8 g8))
        have W7 : w.heap.size ≤ wx.heap.size := W6.out.size
        have R8 := Lib.hid r8
        have G8 : (w7.alloc (.cells #[.slice x'.k.a x'.k.l.length x'.k.c, .int .i64 x'.s, .bool x'.d, .slice x'.v.a x'.v.l.length x'.v.c] 26)).grownBy w8 (Value.slice A2 l'.length c2).ownBlock := by rw [hl2.out.1]; exact g8
        have hE := (RR.out.2.kept B7.out (Nat.le_refl _)).alloc (.cells #[.slice x'.k.a x'.k.l.length x'.k.c, .int .i64 x'.s, .bool x'.d, .slice x'.v.a x'.v.l.length x'.v.c] 26)
        have CM := Lib.hid ((((RR.out.1.kept B7.out (Nat.le_refl _)).kept (below_new w7 _) (Nat.le_refl _)).besideE hE G8))
        have Q3 := Lib.hid (Row.mono ((Q1.out.kept (below_new w7 _) (Nat.le_refl _)).besideE hE G8) W7)
        have Q4 := Lib.hid (Row.mono ((Q2.out.kept (below_new w7 _) (Nat.le_refl _)).besideE hE G8) W7)
        have CB : Hid (Below w.heap.size w w8) := Lib.hid (((W6.out.trans (B7.out.mono W7)).alloc (by have := B7.out.size; omega) _).trans b8)
        clear hE G8 g8 b8 r8 W7
        go_wp2_with fail
        go_roundw
        case rel => exact ⟨k + 1, j + 1, A8, c8, l' ++ [x'], by omega, by go_num, rfl, Lib.hid ⟨by rw [List.length_append, hl2.out.1]; rfl, by have := hl2.out; omega⟩, Lib.hid (by rw [ers_append, hr.out, HST.out, HT.out, ← HXR.out]; rfl), Lib.hid (CM.out.snoc Q3.out Q4.out), Lib.hid R8.out, CB⟩
        case measure => simp [intOf]; omega
      have d1 : decide (s < x.s) = false := decide_eq_false hs
      obtain ⟨bb, hbb⟩ : ∃ bb, lastB (aheadE (ers l) k) x.rd s = bb := ⟨_, rfl⟩
      have HLA : Hid (Calls Try.prog 60 #[.slice (some ad) n c, .int .i64 k, .int .i64 s] wx fun e w' => e = .returned (.bool bb) ∧ ∃ q, w' = wx.drewN q) := Lib.hid (by
        have := isLast_any (some ad) l n c k s _ wx HN.out (HP.out _ BX.out) (HI.out _ BX.out) HL9.out HQ.out
        rwa [hbb] at this)
      have HTK : Hid (thinK s b (aheadE (ers l) k) x.rd = (bb && !(b && x.d))) := Lib.hid (by rw [thinK_low hs, hbb]; rfl)
      clear hbb hs
      cases bb
      · have HT : Hid (thinK s b (aheadE (ers l) k) x.rd = false) := Lib.hid (by rw [HTK.out]; rfl)
        go_wp2_with (go_at_call 60; refine HLA.out.mono ?_; rintro e w6 ⟨rfl, q6, hw6⟩; have B6 : Hid (Below wx.heap.size wx w6) := Lib.hid (by rw [hw6]; exact below_drewN (Below.refl _ _) q6); obtain ⟨c0, c1, c2', c3⟩ := box_four (HOB.out w6 B6.out); clear hw6)
        have R6 : Hid (Below wr.heap.size wr w6) := Lib.hid (below_then BR.out B6.out)
        go_roundw
        case rel => exact ⟨k + 1, j, A2, c2, l', by omega, by go_num, rfl, Lib.hid ⟨hl2.out.1, by have := hl2.out; omega⟩, Lib.hid (by rw [HST.out, HT.out, hr.out]; simp), Lib.hid (hm.out.kept R6.out (Nat.le_refl _)), Lib.hid (r2.out.kept R6.out (Nat.le_refl _)), Lib.hid (b2.out.trans (R6.out.mono WS.out))⟩
        case measure => simp [intOf]; omega
      cases b
      · have HT : Hid (thinK s false (aheadE (ers l) k) x.rd = true) := Lib.hid (by rw [HTK.out]; rfl)
        go_upto_region 8 with (go_at_call 60; refine HLA.out.mono ?_; rintro e w6 ⟨rfl, q6, hw6⟩; have B6 : Hid (Below wx.heap.size wx w6) := Lib.hid (by rw [hw6]; exact below_drewN (Below.refl _ _) q6); obtain ⟨c0, c1, c2', c3⟩ := box_four (HOB.out w6 B6.out); clear hw6)
        have HB6 : Hid (Below wr.heap.size wr w6) := Lib.hid (below_then BR.out B6.out)
        have RR : Hid (EMades w6 w.heap.size l' ∧ Erow w6 w.heap.size A2 c2 l') := Lib.hid ⟨hm.out.kept HB6.out (Nat.le_refl _), r2.out.kept HB6.out (Nat.le_refl _)⟩
        have W6 : Hid (Below w.heap.size w w6) := Lib.hid (b2.out.trans (HB6.out.mono WS.out))
        go_wp2_with (first
          | (go_at_call 49; refine (HCL.out _ HB6.out).mono ?_; rintro e w7 ⟨x', hx', rfl, q1, q2, b7⟩; have HXR := Lib.hid hx'; have Q1 := Lib.hid q1; have Q2 := Lib.hid q2; have B7 := Lib.hid b7; rw [En.val_eq]; clear hx' q1 q2 b7 HCL c0 c1 c2' c3)
          | (refine wpList_append_erow _ (by rfl) (.tmp 39) (.tmp 42) (by rfl) w.heap.size A2 c2 l' [x'] _ j 1 1 (by simp [Act.eval]) (by simp [Act.eval]) hl2.out.1 rfl ((RR.out.2.kept B7.out (Nat.le_refl _)).alloc _) (lit_entry w7 x'.k.a x'.v.a x'.k.c x'.v.c x'.k.l x'.v.l x'.s x'.d _ _ rfl rfl) (by have := W6.out.size; have := B7.out.size; simp; omega) (by have := hl2.out; simp only [List.length_singleton]; omega) ?_; intro A8 c8 w8 r8 b8 g8))
        have W7 : w.heap.size ≤ w6.heap.size := W6.out.size
        have R8 := Lib.hid r8
        have G8 : (w7.alloc (.cells #[.slice x'.k.a x'.k.l.length x'.k.c, .int .i64 x'.s, .bool x'.d, .slice x'.v.a x'.v.l.length x'.v.c] 26)).grownBy w8 (Value.slice A2 l'.length c2).ownBlock := by rw [hl2.out.1]; exact g8
        have hE := (RR.out.2.kept B7.out (Nat.le_refl _)).alloc (.cells #[.slice x'.k.a x'.k.l.length x'.k.c, .int .i64 x'.s, .bool x'.d, .slice x'.v.a x'.v.l.length x'.v.c] 26)
        have CM := Lib.hid ((((RR.out.1.kept B7.out (Nat.le_refl _)).kept (below_new w7 _) (Nat.le_refl _)).besideE hE G8))
        have Q3 := Lib.hid (Row.mono ((Q1.out.kept (below_new w7 _) (Nat.le_refl _)).besideE hE G8) W7)
        have Q4 := Lib.hid (Row.mono ((Q2.out.kept (below_new w7 _) (Nat.le_refl _)).besideE hE G8) W7)
        have CB : Hid (Below w.heap.size w w8) := Lib.hid (((W6.out.trans (B7.out.mono W7)).alloc (by have := B7.out.size; omega) _).trans b8)
        clear hE G8 g8 b8 r8 W7
        go_wp2_with fail
        go_roundw
        case rel => exact ⟨k + 1, j + 1, A8, c8, l' ++ [x'], by omega, by go_num, rfl, Lib.hid ⟨by rw [List.length_append, hl2.out.1]; rfl, by have := hl2.out; omega⟩, Lib.hid (by rw [ers_append, hr.out, HST.out, HT.out, ← HXR.out]; rfl), Lib.hid (CM.out.snoc Q3.out Q4.out), Lib.hid R8.out, CB⟩
        case measure => simp [intOf]; omega
      obtain ⟨d, hd⟩ : ∃ d, x.d = d := ⟨_, rfl⟩
      have HD := Lib.hid hd
      rw [hd] at HTK HOB HCL c2'
      rw [hd]
      clear hd
      cases d
      · have HT : Hid (thinK s true (aheadE (ers l) k) x.rd = true) := Lib.hid (by rw [HTK.out]; rfl)
        go_upto_region 8 with (go_at_call 60; refine HLA.out.mono ?_; rintro e w6 ⟨rfl, q6, hw6⟩; have B6 : Hid (Below wx.heap.size wx w6) := Lib.hid (by rw [hw6]; exact below_drewN (Below.refl _ _) q6); obtain ⟨c0, c1, c2', c3⟩ := box_four (HOB.out w6 B6.out); clear hw6)
        have HB6 : Hid (Below wr.heap.size wr w6) := Lib.hid (below_then BR.out B6.out)
        have RR : Hid (EMades w6 w.heap.size l' ∧ Erow w6 w.heap.size A2 c2 l') := Lib.hid ⟨hm.out.kept HB6.out (Nat.le_refl _), r2.out.kept HB6.out (Nat.le_refl _)⟩
        have W6 : Hid (Below w.heap.size w w6) := Lib.hid (b2.out.trans (HB6.out.mono WS.out))
        go_wp2_with (first
          | (go_at_call 49; refine (HCL.out _ HB6.out).mono ?_; rintro e w7 ⟨x', hx', rfl, q1, q2, b7⟩; have HXR := Lib.hid hx'; have Q1 := Lib.hid q1; have Q2 := Lib.hid q2; have B7 := Lib.hid b7; rw [En.val_eq]; clear hx' q1 q2 b7 HCL c0 c1 c2' c3)
          | (refine wpList_append_erow _ (by rfl) (.tmp 39) (.tmp 42) (by rfl) w.heap.size A2 c2 l' [x'] _ j 1 1 (by simp [Act.eval]) (by simp [Act.eval]) hl2.out.1 rfl ((RR.out.2.kept B7.out (Nat.le_refl _)).alloc _) (lit_entry w7 x'.k.a x'.v.a x'.k.c x'.v.c x'.k.l x'.v.l x'.s x'.d _ _ rfl rfl) (by have := W6.out.size; have := B7.out.size; simp; omega) (by have := hl2.out; simp only [List.length_singleton]; omega) ?_; intro A8 c8 w8 r8 b8 g8))
        have W7 : w.heap.size ≤ w6.heap.size := W6.out.size
        have R8 := Lib.hid r8
        have G8 : (w7.alloc (.cells #[.slice x'.k.a x'.k.l.length x'.k.c, .int .i64 x'.s, .bool x'.d, .slice x'.v.a x'.v.l.length x'.v.c] 26)).grownBy w8 (Value.slice A2 l'.length c2).ownBlock := by rw [hl2.out.1]; exact g8
        have hE := (RR.out.2.kept B7.out (Nat.le_refl _)).alloc (.cells #[.slice x'.k.a x'.k.l.length x'.k.c, .int .i64 x'.s, .bool x'.d, .slice x'.v.a x'.v.l.length x'.v.c] 26)
        have CM := Lib.hid ((((RR.out.1.kept B7.out (Nat.le_refl _)).kept (below_new w7 _) (Nat.le_refl _)).besideE hE G8))
        have Q3 := Lib.hid (Row.mono ((Q1.out.kept (below_new w7 _) (Nat.le_refl _)).besideE hE G8) W7)
        have Q4 := Lib.hid (Row.mono ((Q2.out.kept (below_new w7 _) (Nat.le_refl _)).besideE hE G8) W7)
        have CB : Hid (Below w.heap.size w w8) := Lib.hid (((W6.out.trans (B7.out.mono W7)).alloc (by have := B7.out.size; omega) _).trans b8)
        clear hE G8 g8 b8 r8 W7
        go_wp2_with fail
        go_roundw
        case rel => exact ⟨k + 1, j + 1, A8, c8, l' ++ [x'], by omega, by go_num, rfl, Lib.hid ⟨by rw [List.length_append, hl2.out.1]; rfl, by have := hl2.out; omega⟩, Lib.hid (by rw [ers_append, hr.out, HST.out, HT.out, ← HXR.out]; rfl), Lib.hid (CM.out.snoc Q3.out Q4.out), Lib.hid R8.out, CB⟩
        case measure => simp [intOf]; omega
      · have HT : Hid (thinK s true (aheadE (ers l) k) x.rd = false) := Lib.hid (by rw [HTK.out]; rfl)
        go_wp2_with (go_at_call 60; refine HLA.out.mono ?_; rintro e w6 ⟨rfl, q6, hw6⟩; have B6 : Hid (Below wx.heap.size wx w6) := Lib.hid (by rw [hw6]; exact below_drewN (Below.refl _ _) q6); obtain ⟨c0, c1, c2', c3⟩ := box_four (HOB.out w6 B6.out); clear hw6)
        have R6 : Hid (Below wr.heap.size wr w6) := Lib.hid (below_then BR.out B6.out)
        go_roundw
        case rel => exact ⟨k + 1, j, A2, c2, l', by omega, by go_num, rfl, Lib.hid ⟨hl2.out.1, by have := hl2.out; omega⟩, Lib.hid (by rw [HST.out, HT.out, hr.out]; simp), Lib.hid (hm.out.kept R6.out (Nat.le_refl _)), Lib.hid (r2.out.kept R6.out (Nat.le_refl _)), Lib.hid (b2.out.trans (R6.out.mono WS.out))⟩
        case measure => simp [intOf]; omega
    · obtain rfl : k = n := by omega
      have hr' := hr.out
      rw [List.take_of_length_le (by rw [ers_len]; have := HN.out; omega)] at hr'
      have HR := Lib.hid hr'
      clear hr'
      go_wp2_with fail
      go_ret2
      exact ⟨l', _, _, _, rfl, hl2.out.1, HR.out, hm.out, r2.out, b2.out⟩
end Go.Proofs.Ytcffpkflijpdjaa
namespace Go.Proofs.Ytcffpkflijpdjaa
open Go.RowKit
/-- Some of the entries, or the refusal. -/
def EPick (ok : Bool) (P : List Er) (l : List En) (w : World) (e : Ending) (w' : World) : Prop := ∃ (l' : List En) (A' : Option Addr) (n' c' : Nat), e = .returned (.tuple #[.slice A' n' c', .int .i64 (if ok = true then 0 else 30)]) ∧ l'.length = n' ∧ ers l' = (if ok = true then P else []) ∧ (∀ p ∈ l', p ∈ l) ∧ Erow w' w.heap.size A' c' l' ∧ Below w.heap.size w w'
set_option maxRecDepth 100000 in
set_option maxHeartbeats 8000000 in
theorem refThin_any (A : Option Addr) (l : List En) (n c : Nat) (s : Int) (b : Bool) (w : World) (hn : l.length = n) (h : Lies w A (evals l)) (hi : EIns w l) (hl : n * 64 ≤ 140737488351232) (hk : ∀ q ∈ l, q.k.l.length ≤ 281474976710656) :
    Calls Try.prog 34 #[.slice A n c, .int .i64 s, .bool b] w (EPick (decide (OrdL (ers l))) (thinE s b (ers l)) l w) := by
  have HMS := Lib.hid (refOrdered_any A l n c w hn h hi (by omega) hk)
  obtain ⟨od, hod⟩ : ∃ od, decide (OrdL (ers l)) = od := ⟨_, rfl⟩
  rw [hod] at HMS ⊢
  have HP := Lib.hid (fun (w' : World) (hb : Below w.heap.size w w') => h.kept hb)
  have HI := Lib.hid (fun (w' : World) (hb : Below w.heap.size w w') => hi.kept hb)
  have HN := Lib.hid hn
  have HL9 := Lib.hid hl
  clear h hi hn hk hod
  cases od
  · go_enter Try.func34, Try.ntmps34
    go_wp2_with (go_at_call 35; refine HMS.out.mono ?_; rintro e w2 ⟨rfl, b2⟩; have B2 := Lib.hid b2; clear b2)
    go_ret2
    exact ⟨[], none, 0, 0, rfl, rfl, rfl, (fun _ h => by cases h), Erow.nil _ _, B2.out⟩
  go_enter Try.func34, Try.ntmps34
  go_wp2_with (go_at_call 35; refine HMS.out.mono ?_; rintro e w2 ⟨rfl, b2⟩; have B2 := Lib.hid b2; clear b2)
  go_loopw [8, 15] (fun t8 t15 wr => ∃ (k j : Nat) (A2 : Option Addr) (c2 : Nat) (l' : List En), k ≤ n ∧ t15 = .int .i64 k ∧ t8 = .slice A2 j c2 ∧ Hid (l'.length = j ∧ j ≤ k) ∧ Hid (ers l' = pickF (thinK s b) none ((ers l).take k)) ∧ Hid (∀ p ∈ l', p ∈ l) ∧ Hid (Erow wr w.heap.size A2 c2 l') ∧ Hid (Below w.heap.size w wr)) (fun _ t15 _ => n - (intOf t15).toNat)
  case atStart => exact ⟨0, 0, none, 0, [], by omega, rfl, rfl, Lib.hid ⟨rfl, Nat.le_refl _⟩, Lib.hid rfl, Lib.hid (fun _ h => by cases h), Lib.hid (Erow.nil _ _), B2⟩
  case round =>
    obtain ⟨k, j, A2, c2, l', hk, rfl, rfl, hl2, hr, hm, r2, b2⟩ := hrel
    by_cases hlt : k < n
    · have hq := List.getElem?_eq_getElem (l := l) (i := k) (by have := HN.out; omega)
      generalize l[k]'(by have := HN.out; omega) = x at hq
      obtain ⟨ad, rfl, a0, a1, a2, a3⟩ := lies_entry (HP.out _ b2.out) hq
      have hmem := List.mem_of_getElem? hq
      have HX := Lib.hid (fun (w' : World) (hb : Below w.heap.size w w') => HI.out w' hb x hmem)
      have HQ := Lib.hid hq
      have HMEM := Lib.hid hmem
      have HST : Hid (∀ s, pickF (thinK s b) none ((ers l).take (k + 1)) = pickF (thinK s b) none ((ers l).take k) ++ (if thinK s b (aheadE (ers l) k) x.rd = true then [x.rd] else [])) := Lib.hid (fun s => thin_step (ers_get hq))
      obtain ⟨m, hm2⟩ : ∃ m, x.k.l.length = m := ⟨_, rfl⟩
      obtain ⟨z, hz2⟩ : ∃ z, x.v.l.length = z := ⟨_, rfl⟩
      rw [hm2] at a0
      rw [hz2] at a3
      have HM2 := Lib.hid (And.intro hm2 hz2)
      have k0 : (k : Int) < n := by omega
      have WS : Hid (w.heap.size ≤ wr.heap.size) := Lib.hid b2.out.size
      have HA : Hid (∀ W, Below w.heap.size w W → W.cell? (ad.add (k * 4)) = some (.slice x.k.a m x.k.c) ∧ W.cell? ⟨(ad.add (k * 4)).block, (ad.add (k * 4)).off + 1, none⟩ = some (.int .i64 x.s) ∧ W.cell? ⟨(ad.add (k * 4)).block, (ad.add (k * 4)).off + 2, none⟩ = some (.bool x.d) ∧ W.cell? ⟨(ad.add (k * 4)).block, (ad.add (k * 4)).off + 3, none⟩ = some (.slice x.v.a z x.v.c)) := Lib.hid (fun W hb => by
        have := lies_entry_at (HP.out W hb) HQ.out
        unfold AtE at this
        rwa [HM2.out.1, HM2.out.2] at this)
      clear hq hm2 hz2 hmem
      by_cases hs0 : s < x.s
      · have d1 : decide (s < x.s) = true := decide_eq_true hs0
        have HT : Hid (thinK s b (aheadE (ers l) k) x.rd = true) := Lib.hid (thinK_high hs0)
        clear hs0
        have HBB : Hid (Below wr.heap.size wr wr) := Lib.hid (Below.refl wr.heap.size wr)
        have HWB : Hid (Below w.heap.size w wr) := Lib.hid (b2.out)
        go_wp2_with (refine wpList_append_erow _ (by rfl) (.tmp 25) (.tmp 30) (by rfl) w.heap.size A2 c2 l' [x] _ j 1 1 (by simp [Act.eval]) (by simp [Act.eval]) hl2.out.1 rfl ((r2.out.kept HBB.out (Nat.le_refl _)).alloc _) (lit_entry wr x.k.a x.v.a x.k.c x.v.c x.k.l x.v.l x.s x.d m z HM2.out.1 HM2.out.2) (by have := HWB.out.size; simp; omega) (by have := hl2.out; simp only [List.length_singleton]; omega) ?_; intro A8 c8 w8 r8 b8 g8)
        have R8 := Lib.hid r8
        have CB : Hid (Below w.heap.size w w8) := Lib.hid ((HWB.out.alloc HWB.out.size _).trans b8)
        clear g8 b8 r8 a0 a1 a2 a3
        go_wp2_with fail
        go_roundw
        case rel => exact ⟨k + 1, j + 1, A8, c8, l' ++ [x], by omega, by go_num, rfl, Lib.hid ⟨by rw [List.length_append, hl2.out.1]; rfl, by have := hl2.out; omega⟩, Lib.hid (by rw [ers_append, hr.out, HST.out, HT.out]; rfl), Lib.hid (fun p hp => (List.mem_append.1 hp).elim (hm.out p) (fun hp => by rw [List.mem_singleton.1 hp]; exact HMEM.out)), Lib.hid R8.out, CB⟩
        case measure => simp [intOf]; omega
      have d1 : decide (s < x.s) = false := decide_eq_false hs0
      have HTK := Lib.hid (thinK_low (p := aheadE (ers l) k) (e := x.rd) (b := b) hs0)
      have HXS : Hid (x.s ≤ s) := Lib.hid (by omega)
      clear hs0
      obtain ⟨sk, hsk⟩ : ∃ sk, skipB (aheadE (ers l) k) x.rd s = sk := ⟨_, rfl⟩
      have HSK := Lib.hid hsk
      clear hsk
      go_upto_region 9 with fail
      go_cut [59] from 32 to 59 (fun t43 wx => t43 = .bool sk ∧ ∃ q, wx = wr.drewN q)
      case first =>
        obtain h0 | ⟨i, hik⟩ : k = 0 ∨ ∃ i, k = i + 1 := by
          cases k with
          | zero => exact .inl rfl
          | succ i => exact .inr ⟨i, rfl⟩
        · have d0 : decide ((0 : Int) < k) = false := decide_eq_false (by omega)
          have d0n : decide (0 < k) = false := decide_eq_false (by omega)
          have d0m : ¬ (0 : Int) < k := by omega
          have d0k : ¬ 0 < k := by omega
          have HS : Hid (sk = false) := Lib.hid (by rw [← HSK.out, aheadE, if_pos h0]; rfl)
          clear h0
          go_quiet (fail)
          go_wp2_with fail
          go_meet
          exact ⟨by rw [HS.out], _, rfl⟩
        have d0 : (0 : Int) < k := by omega
        have d0n : 0 < k := by omega
        have hp := List.getElem?_eq_getElem (l := l) (i := i) (by have := HN.out; omega)
        generalize l[i]'(by have := HN.out; omega) = p at hp
        have e1 : aheadE (ers l) k = some p.rd := by rw [aheadE, if_neg (by omega), show k - 1 = i by omega]; exact ers_get hp
        obtain ⟨b0, b1, -, -⟩ := lies_entry_at (HP.out _ b2.out) hp
        have IP := HI.out wr b2.out p (List.mem_of_getElem? hp)
        have IX := HX.out wr b2.out
        have w1 : wrap64 ((k : Int) - 1) = (i : Int) := by unfold wrap64; omega
        have w2 : IntKind.i64.wrap ((k : Int) - 1) = (i : Int) := by rw [IntKind.wrap_i64]; omega
        have j0 : (i : Int) < n := by omega
        obtain ⟨pn, hpn⟩ : ∃ m, p.k.l.length = m := ⟨_, rfl⟩
        rw [hpn] at b0
        have C0 := conv_drew IP.1.bys pn p.k.c hpn
        have C1 := conv_drew IX.1.bys m x.k.c HM2.out.1
        have hE := toList_dec IP.1.byt IX.1.byt
        have HS : Hid (sk = (decide (p.k.l = x.k.l) && decide (p.s ≤ s))) := Lib.hid (by rw [← HSK.out, e1]; rfl)
        clear hp e1 IP IX hpn hik
        by_cases he : p.k.l = x.k.l
        · rw [decide_eq_true he] at hE HS
          by_cases hs : p.s ≤ s
          · have d1 : decide (p.s ≤ s) = true := decide_eq_true hs
            rw [d1] at HS
            clear he hs
            go_quiet (fail)
            go_wp2_with fail
            go_meet
            exact ⟨by rw [HS.out]; rfl, _, rfl⟩
          · have d1 : decide (p.s ≤ s) = false := decide_eq_false hs
            rw [d1] at HS
            clear he hs
            go_quiet (fail)
            go_wp2_with fail
            go_meet
            exact ⟨by rw [HS.out]; rfl, _, rfl⟩
        · rw [decide_eq_false he] at hE HS
          clear he
          go_quiet (fail)
          go_wp2_with fail
          go_meet
          exact ⟨by rw [HS.out]; rfl, _, rfl⟩
      case rest =>
        obtain ⟨rfl, qc, hwc⟩ := hcut
        have BC : Hid (Below wr.heap.size wr wc) := Lib.hid (by rw [hwc]; exact below_drewN (Below.refl _ _) qc)
        have WC : Hid (Below w.heap.size w wc) := Lib.hid (b2.out.trans (BC.out.mono WS.out))
        clear hwc a0 a1 a2 a3
        obtain ⟨a0, a1, a2, a3⟩ := HA.out wc WC.out
        have HLS : Hid (thinK s b (aheadE (ers l) k) x.rd = (!sk && !(b && x.d))) := Lib.hid (by rw [HTK.out, last_skip, HSK.out, decide_eq_true (show x.rd.2.1 ≤ s from HXS.out), Bool.true_and]; rfl)
        obtain ⟨d, hd⟩ : ∃ d, x.d = d := ⟨_, rfl⟩
        have HD := Lib.hid hd
        rw [hd] at a2 HLS HA
        clear hd
        cases sk
        · cases d
          · have HT : Hid (thinK s b (aheadE (ers l) k) x.rd = true) := Lib.hid (by rw [HLS.out]; cases b <;> rfl)
            have HBB : Hid (Below wr.heap.size wr wc) := Lib.hid BC.out
            have HWB : Hid (Below w.heap.size w wc) := Lib.hid (WC.out)
            go_wp2_with (refine wpList_append_erow _ (by rfl) (.tmp 70) (.tmp 75) (by rfl) w.heap.size A2 c2 l' [⟨x.k, x.s, false, x.v⟩] _ j 1 1 (by simp [Act.eval]) (by simp [Act.eval]) hl2.out.1 rfl ((r2.out.kept HBB.out (Nat.le_refl _)).alloc _) (lit_entry wc x.k.a x.v.a x.k.c x.v.c x.k.l x.v.l x.s false m z HM2.out.1 HM2.out.2) (by have := HWB.out.size; simp; omega) (by have := hl2.out; simp only [List.length_singleton]; omega) ?_; intro A8 c8 w8 r8 b8 g8)
            have R8 := Lib.hid r8
            have CB : Hid (Below w.heap.size w w8) := Lib.hid ((HWB.out.alloc HWB.out.size _).trans b8)
            clear g8 b8 r8 a0 a1 a2 a3
            go_wp2_with fail
            go_roundw
            case rel => exact ⟨k + 1, j + 1, A8, c8, l' ++ [⟨x.k, x.s, false, x.v⟩], by omega, by go_num, rfl, Lib.hid ⟨by rw [List.length_append, hl2.out.1]; rfl, by have := hl2.out; omega⟩, Lib.hid (by rw [ers_append, hr.out, HST.out, HT.out, show x.rd = (x.k.l, x.s, x.d, x.v.l) from rfl, HD.out]; rfl), Lib.hid (fun p hp => (List.mem_append.1 hp).elim (hm.out p) (fun hp => by rw [List.mem_singleton.1 hp, ← HD.out]; exact HMEM.out)), Lib.hid R8.out, CB⟩
            case measure => simp [intOf]; omega
          cases b
          · have HT : Hid (thinK s false (aheadE (ers l) k) x.rd = true) := Lib.hid (by rw [HLS.out]; rfl)
            have HBB : Hid (Below wr.heap.size wr wc) := Lib.hid BC.out
            have HWB : Hid (Below w.heap.size w wc) := Lib.hid (WC.out)
            go_wp2_with (refine wpList_append_erow _ (by rfl) (.tmp 70) (.tmp 75) (by rfl) w.heap.size A2 c2 l' [⟨x.k, x.s, true, x.v⟩] _ j 1 1 (by simp [Act.eval]) (by simp [Act.eval]) hl2.out.1 rfl ((r2.out.kept HBB.out (Nat.le_refl _)).alloc _) (lit_entry wc x.k.a x.v.a x.k.c x.v.c x.k.l x.v.l x.s true m z HM2.out.1 HM2.out.2) (by have := HWB.out.size; simp; omega) (by have := hl2.out; simp only [List.length_singleton]; omega) ?_; intro A8 c8 w8 r8 b8 g8)
            have R8 := Lib.hid r8
            have CB : Hid (Below w.heap.size w w8) := Lib.hid ((HWB.out.alloc HWB.out.size _).trans b8)
            clear g8 b8 r8 a0 a1 a2 a3
            go_wp2_with fail
            go_roundw
            case rel => exact ⟨k + 1, j + 1, A8, c8, l' ++ [⟨x.k, x.s, true, x.v⟩], by omega, by go_num, rfl, Lib.hid ⟨by rw [List.length_append, hl2.out.1]; rfl, by have := hl2.out; omega⟩, Lib.hid (by rw [ers_append, hr.out, HST.out, HT.out, show x.rd = (x.k.l, x.s, x.d, x.v.l) from rfl, HD.out]; rfl), Lib.hid (fun p hp => (List.mem_append.1 hp).elim (hm.out p) (fun hp => by rw [List.mem_singleton.1 hp, ← HD.out]; exact HMEM.out)), Lib.hid R8.out, CB⟩
            case measure => simp [intOf]; omega
          · have HT : Hid (thinK s true (aheadE (ers l) k) x.rd = false) := Lib.hid (by rw [HLS.out]; rfl)
            go_wp2_with fail
            go_roundw
            case rel => exact ⟨k + 1, j, A2, c2, l', by omega, by go_num, rfl, Lib.hid ⟨hl2.out.1, by have := hl2.out; omega⟩, Lib.hid (by rw [HST.out, HT.out, hr.out]; simp), hm, Lib.hid (r2.out.kept BC.out (Nat.le_refl _)), WC⟩
            case measure => simp [intOf]; omega
        · have HT : Hid (thinK s b (aheadE (ers l) k) x.rd = false) := Lib.hid (by rw [HLS.out]; rfl)
          go_wp2_with fail
          go_roundw
          case rel => exact ⟨k + 1, j, A2, c2, l', by omega, by go_num, rfl, Lib.hid ⟨hl2.out.1, by have := hl2.out; omega⟩, Lib.hid (by rw [HST.out, HT.out, hr.out]; simp), hm, Lib.hid (r2.out.kept BC.out (Nat.le_refl _)), WC⟩
          case measure => simp [intOf]; omega
    · obtain rfl : k = n := by omega
      have hr' := hr.out
      rw [List.take_of_length_le (by rw [ers_len]; have := HN.out; omega)] at hr'
      have HR := Lib.hid hr'
      clear hr'
      go_wp2_with fail
      go_ret2
      exact ⟨l', _, _, _, rfl, hl2.out.1, HR.out, hm.out, r2.out, b2.out⟩
end Go.Proofs.Ytcffpkflijpdjaa
