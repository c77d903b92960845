/-
  Bytes, texts, numbers and entries that come in, as the walks want them. Plain: what is seen of entries in order at a number, and what may be forgotten. Walks: is an entry the last of its key up to a number. Walks: what is seen of entries, by the program. Walks: what is seen of entries, by the document.
-/
import Derived.Test.YtkodhlaojlgejaaRows
import Derived.Deep.Slices
import Derived.OpenShut
import Derived.ChangeOld
import Derived.SizedLaws
import Derived.Test.YtkodhlaojlgejaaJ01
import Derived.Test.YtkodhlaojlgejaaJ04
set_option linter.unusedSimpArgs false
set_option linter.unusedVariables false
namespace Go.Proofs.Ytkodhlaojlgejaa
open Go.ChangeShapes Go.WideShapes Go.ChangeAt Go.RowKit
theorem in_row (w : World) (x : Addr) (l c : Nat) (zs : List Int) (hl : l ≤ c) (hm : c ≤ maxLen) (hz : zs.length = c) (hcell : ∀ i, i < zs.length → w.cell? (x.add i) = some (.int .u8 (zs.getD i 0))) (hwz : ∀ n ∈ zs, (Lit.int .u8 n).wf = true) : In w (some x) (zs.take l) l c := by
  refine ⟨by simp; omega, hl, by unfold maxLen at hm; omega, .inr ⟨x, rfl, fun j y hy => ?_⟩, fun y hy => ?_⟩
  · rw [List.getElem?_take] at hy
    split at hy
    · have hj := (List.getElem?_eq_some_iff.1 hy).1
      rw [hcell j hj, List.getD_eq_getElem?_getD, hy]
      rfl
    · cases hy
  · have := hwz y (List.mem_of_mem_take hy)
    simp [Lit.wf, IntKind.min, IntKind.max, IntKind.signed, IntKind.bits] at this
    omega
theorem bulk_one {H : Type} (d : DataW H) : 1 ≤ Rows.uptoBulk d := by
  cases d with
  | lit l => cases l <;> simp [Rows.uptoBulk]
  | nil => simp [Rows.uptoBulk]
  | ptr d => simp [Rows.uptoBulk]
  | slice elems spare => simp [Rows.uptoBulk]
  | agg parts => simp [Rows.uptoBulk]
  | iface t d => simp [Rows.uptoBulk]
  | map entries => simp [Rows.uptoBulk]
  | held h => simp [Rows.uptoBulk]
theorem bulk_in {H : Type} {d : DataW H} {l : List (DataW H)} (h : d ∈ l) : Rows.uptoBulk d ≤ Rows.uptoBulkAll l := by
  induction l with
  | nil => cases h
  | cons x r ih =>
    simp only [Rows.uptoBulkAll]
    rcases List.mem_cons.1 h with e | e
    · subst e
      omega
    · have := ih e
      omega
theorem bulk_length {H : Type} (l : List (DataW H)) : l.length ≤ Rows.uptoBulkAll l := by
  induction l with
  | nil => simp [Rows.uptoBulkAll]
  | cons x r ih =>
    have := bulk_one x
    simp only [Rows.uptoBulkAll, List.length_cons]
    omega
theorem list_of {α : Type} {P : Nat → α → Prop} : ∀ n : Nat, (∀ i, i < n → ∃ q, P i q) → ∃ l : List α, l.length = n ∧ ∀ i q, l[i]? = some q → P i q
  | 0, _ => ⟨[], rfl, fun i q h => by simp at h⟩
  | n + 1, h => by
    obtain ⟨l, hl, hp⟩ := list_of n (fun i hi => h i (by omega))
    obtain ⟨q, hq⟩ := h n (by omega)
    refine ⟨l ++ [q], by simp [hl], fun i p hi => ?_⟩
    rcases Nat.lt_or_ge i n with k | k
    · exact hp i p (by rwa [List.getElem?_append_left (by omega)] at hi)
    · have hlt := (List.getElem?_eq_some_iff.1 hi).1
      simp only [List.length_append, List.length_singleton] at hlt
      have e : i = n := by omega
      subst e
      rw [List.getElem?_append_right (by omega), hl] at hi
      simp at hi
      subst hi
      exact hq
theorem weights_all {H : Type} {P : Program} {e : TypeId} {l : List (DataW H)} {d : DataW H} (h : d ∈ l) : ∀ n ∈ d.weights P e, n ∈ DataW.weightsAll P e l := by
  induction l with
  | nil => cases h
  | cons x r ih =>
    intro n hn
    simp only [DataW.weightsAll, List.mem_append]
    rcases List.mem_cons.1 h with k | k
    · subst k
      exact .inl hn
    · exact .inr (ih k n hn)
theorem cells26 : Try.prog.cellsOf 26 = 4 := by kernel_rfl
theorem cells23 : Try.prog.cellsOf 23 = 1 := by kernel_rfl
theorem cells3 : Try.prog.cellsOf 3 = 1 := by kernel_rfl
theorem cells4 : Try.prog.cellsOf 4 = 1 := by kernel_rfl
theorem bytes8 : Try.prog.bytesOf 5 = 1 := by kernel_rfl
theorem bytesEntry : Try.prog.bytesOf 26 = 64 := by kernel_rfl
section
variable {H : Type} {enc : TypeId × Value → H} {W : World} {fuel : Nat} {cs : List Value} {x : DataW H × List MemPlace}
/-- Bytes, read. -/
theorem open_byts (h : DataW.trod enc Try.prog W 0 (fun _ => true) true fuel 23 cs = some x) :
    ∃ s : Sl, cs = [s.val] ∧ In W s.a s.l s.l.length s.c ∧ s.l.length + 1 ≤ Rows.uptoBulk x.1 ∧ ((∀ n ∈ x.1.weights Try.prog 23, n ≤ reachBytes) → s.l.length ≤ 140737488351232) := by
  rcases open_ints Try.underlying23 Try.underlying5 (by kernel_rfl) h with ⟨hc0, hx⟩ | ⟨y, l, d, zs, hc0, _, hl', hm', hz, hxx, hcell, hwz⟩
  · exact ⟨⟨none, 0, []⟩, hc0, in_nil W, bulk_one _, fun _ => by simp⟩
  · simp only [if_true] at hz
    have hin := in_row W y l d zs hl' hm' hz hcell hwz
    refine ⟨⟨some y, d, zs.take l⟩, ?_, hin.of_n, ?_, fun hw => ?_⟩
    · rw [hc0]
      show _ = [Value.slice (some y) (zs.take l).length d]
      rw [hin.len]
    · rw [hxx]
      have h2 := bulk_length (H := H) (lits .u8 (zs.take l))
      simp only [lits, List.length_map] at h2
      simp only [Rows.uptoBulk, lits]
      omega
    · have := hw (((lits (H := H) .u8 (zs.take l)).length + (lits (H := H) .u8 (zs.drop l)).length) * Try.prog.bytesOf 5) (by
        rw [hxx]
        simp only [DataW.weights, Try.underlying23]
        exact List.mem_cons_self)
      rw [bytes8] at this
      simp only [lits, List.length_map, reachBytes] at this
      show (zs.take l).length ≤ _
      omega
theorem open_num (h : DataW.trod enc Try.prog W 0 (fun _ => true) true fuel 3 cs = some x) : ∃ k : Int, cs = [.int .i64 k] ∧ -9223372036854775808 ≤ k ∧ k ≤ 9223372036854775807 := by
  obtain ⟨k, e3, e4, e5⟩ := DataW.trod_int Try.underlying3 h
  refine ⟨k, e3, ?_⟩
  simpa [Lit.wf, IntKind.min, IntKind.max, IntKind.signed, IntKind.bits] using e5
set_option maxRecDepth 100000 in
set_option maxRecDepth 100000 in
/-- An entry, read. -/
theorem open_entry (h : DataW.trod enc Try.prog W 0 (fun _ => true) true fuel 26 cs = some x) :
    ∃ q : En, cs = q.cells ∧ (In W q.k.a q.k.l q.k.l.length q.k.c ∧ In W q.v.a q.v.l q.v.l.length q.v.c) ∧ (-9223372036854775808 ≤ q.s ∧ q.s ≤ 9223372036854775807) ∧ q.k.l.length + q.v.l.length + 5 ≤ Rows.uptoBulk x.1 ∧ ((∀ n ∈ x.1.weights Try.prog 26, n ≤ reachBytes) → q.k.l.length ≤ 140737488351232 ∧ q.v.l.length ≤ 140737488351232) := by
  obtain ⟨xs, n, -, rfl, hlen, hxl, hf⟩ := DataW.trod_struct Try.underlying26 h
  rw [cells26] at hlen
  have h0 : DataW.trod enc Try.prog W 0 (fun _ => true) true n 23 ((cs.drop 0).take (Try.prog.cellsOf 23)) = xs[0]? := hf 0 _ rfl
  have h1 : DataW.trod enc Try.prog W 0 (fun _ => true) true n 3 ((cs.drop 1).take (Try.prog.cellsOf 3)) = xs[1]? := hf 1 _ rfl
  have h2 : DataW.trod enc Try.prog W 0 (fun _ => true) true n 4 ((cs.drop 2).take (Try.prog.cellsOf 4)) = xs[2]? := hf 2 _ rfl
  have h3 : DataW.trod enc Try.prog W 0 (fun _ => true) true n 23 ((cs.drop 3).take (Try.prog.cellsOf 23)) = xs[3]? := hf 3 _ rfl
  rw [cells23] at h0 h3
  rw [cells3] at h1
  rw [cells4] at h2
  match cs, hlen, xs, hxl with
  | [u, v, t, r], _, [y0, y1, y2, y3], _ =>
    obtain ⟨s, e1, e2, e3, e4⟩ := open_byts (h0.trans rfl)
    obtain ⟨k, g1, g2⟩ := open_num (h1.trans rfl)
    obtain ⟨b, b1, -⟩ := DataW.trod_bool Try.underlying4 (h2.trans rfl)
    obtain ⟨d, f1, f2, f3, f4⟩ := open_byts (h3.trans rfl)
    have a1 : u = s.val := by simpa using e1
    have a2 : v = .int .i64 k := by simpa using g1
    have a3 : t = .bool b := by simpa using b1
    have a4 : r = d.val := by simpa using f1
    subst a1
    subst a2
    subst a3
    subst a4
    refine ⟨⟨s, k, b, d⟩, rfl, ⟨e2, f2⟩, g2, ?_, fun hw => ⟨e4 (fun m hm => hw m ?_), f4 (fun m hm => hw m ?_)⟩⟩
    · have h4 := bulk_one y1.1
      have h5 := bulk_one y2.1
      simp only [Rows.uptoBulk, Rows.uptoBulkAll, List.map_cons, List.map_nil] at e3 f3 ⊢
      omega
    · simp only [DataW.weights, Try.underlying26]
      exact DataW.weights_mem_each (j := 0) (t := 23) rfl rfl m hm
    · simp only [DataW.weights, Try.underlying26]
      exact DataW.weights_mem_each (j := 3) (t := 23) rfl rfl m hm
theorem bulk_add {α : Type} (f : α → Nat) : ∀ (T : List α) (ds : List (DataW H)), T.length = ds.length → (∀ (i : Nat) (s : α) (d : DataW H), T[i]? = some s → ds[i]? = some d → f s + 1 ≤ Rows.uptoBulk d) → (T.map f).sum + T.length ≤ Rows.uptoBulkAll ds
  | [], [], _, _ => by simp [Rows.uptoBulkAll]
  | [], _ :: _, h, _ => by simp at h
  | _ :: _, [], h, _ => by simp at h
  | s :: T, d :: ds, h, hp => by
    have ih := bulk_add f T ds (by simpa using h) (fun i s d h1 h2 => hp (i + 1) s d (by simpa using h1) (by simpa using h2))
    have h0 := hp 0 s d rfl rfl
    simp only [List.map_cons, List.sum_cons, List.length_cons, Rows.uptoBulkAll] at ih ⊢
    omega
theorem flat_get {α : Type} (f : α → List Value) (k : Nat) (hk : ∀ a, (f a).length = k) (h0 : 0 < k) : ∀ (l : List α) (j : Nat) (u : Value), (l.flatMap f)[j]? = some u → ∃ a, l[j / k]? = some a ∧ (f a)[j % k]? = some u
  | [], j, u, h => by simp at h
  | a :: l, j, u, h => by
    rw [List.flatMap_cons] at h
    by_cases hj : j < k
    · rw [List.getElem?_append_left (by rw [hk]; omega)] at h
      exact ⟨a, by rw [Nat.div_eq_of_lt hj]; rfl, by rw [Nat.mod_eq_of_lt hj]; exact h⟩
    · rw [List.getElem?_append_right (by rw [hk]; omega), hk] at h
      obtain ⟨b, h1, h2⟩ := flat_get f k hk h0 l (j - k) u h
      refine ⟨b, ?_, ?_⟩
      · rw [Nat.div_eq_sub_div h0 (by omega)]
        simpa using h1
      · rw [Nat.mod_eq_sub_mod (by omega)]
        exact h2
/-- A slice of structs, read. -/
theorem open_rows {α : Type} {t e : TypeId} (f : α → List Value) (k : Nat) (hk : ∀ a, (f a).length = k) (h0 : 0 < k) (hc : Try.prog.cellsOf e = k) (ht : Try.prog.underlying t = some (.slice e)) (h : DataW.trod enc Try.prog W 0 (fun _ => true) true fuel t cs = some x) (A : Option Addr) (n c : Nat) (hcs : cs = [.slice A n c])
    (P : α → DataW H → Prop) (hP : ∀ m (cs' : List Value) (y : DataW H × List MemPlace), DataW.trod enc Try.prog W 0 (fun _ => true) true m e cs' = some y → (Rows.uptoBulk y.1 ≤ Rows.uptoBulk x.1) → (∀ z ∈ y.1.weights Try.prog e, z ∈ x.1.weights Try.prog t) → ∃ a, cs' = f a ∧ P a y.1) :
    ∃ l : List α, l.length = n ∧ (n ≤ c ∧ (c : Int) ≤ 9223372036854775807) ∧ Lies W A (l.flatMap f) ∧ ∃ ds : List (DataW H), l.length = ds.length ∧ (∀ (i : Nat) (a : α) (d : DataW H), l[i]? = some a → ds[i]? = some d → P a d) ∧ Rows.uptoBulkAll ds + 1 ≤ Rows.uptoBulk x.1 ∧ ((∀ z ∈ x.1.weights Try.prog t, z ≤ reachBytes) → n * Try.prog.bytesOf e ≤ reachBytes) := by
  rcases Go.Deep.open_slice ht h with ⟨h1, hx⟩ | ⟨a, len, cap, m, fu, D, Pl, h1, _, hl, hm, hmm, hx, hi⟩
  · rw [h1] at hcs
    injection hcs with e1
    injection e1 with e1 e2 e3
    subst e1 e2 e3
    exact ⟨[], rfl, ⟨Nat.le_refl _, by decide⟩, .inl rfl, [], rfl, fun i a d h => by simp at h, by rw [hx]; simp [Rows.uptoBulk, Rows.uptoBulkAll], fun _ => by simp⟩
  · rw [h1] at hcs
    injection hcs with e1
    injection e1 with e1 e2 e3
    subst e1 e2 e3
    simp only [if_true] at hmm
    subst hmm
    rw [hc] at hi
    have hx1 : x.1 = .slice ((List.range len).map D) ((List.range (m - len)).map fun j => D (len + j)) := by rw [hx]
    obtain ⟨l, hll, hq⟩ := list_of (P := fun i (q : α) => P q (D i) ∧ ∀ j u, (f q)[j]? = some u → W.cell? (a.add (i * k + j)) = some u) len (fun i hlt => by
      obtain ⟨cs', hc', ht'⟩ := hi i (by omega)
      obtain ⟨_, _, hat⟩ := World.cells?_some hc'
      have hmem : D i ∈ (List.range len).map D := List.mem_map_of_mem (List.mem_range.2 hlt)
      obtain ⟨q, e1, e2⟩ := hP _ _ _ ht' (by
        rw [hx1]
        have := bulk_in hmem
        simp only [Rows.uptoBulk]
        show Rows.uptoBulk (D i) ≤ _
        omega) (fun z hz => by
        rw [hx1]
        simp only [DataW.weights, ht]
        exact List.mem_cons_of_mem _ (List.mem_append.2 (.inl (weights_all hmem _ hz))))
      refine ⟨q, e2, fun j u hj => ?_⟩
      have hj3 : j < k := by
        have := (List.getElem?_eq_some_iff.1 hj).1
        rwa [hk] at this
      rw [← add_add, hat j hj3, e1]
      exact hj)
    refine ⟨l, hll, ⟨hl, by unfold maxLen at hm; omega⟩, .inr ⟨a, rfl, fun j u hj => ?_⟩, (List.range len).map D, by simp [hll], fun i q d h1 h2 => ?_, ?_, fun hw => ?_⟩
    · obtain ⟨q, e1, e2⟩ := flat_get f k hk h0 l j u hj
      have := (hq _ q e1).2 _ u e2
      rwa [show j / k * k + j % k = j by rw [Nat.mul_comm]; exact Nat.div_add_mod j k] at this
    · have hlt := (List.getElem?_eq_some_iff.1 h1).1
      rw [List.getElem?_map, List.getElem?_range (by omega)] at h2
      simp only [Option.map_some, Option.some.injEq] at h2
      rw [← h2]
      exact (hq i q h1).1
    · rw [hx1]
      simp only [Rows.uptoBulk]
      omega
    · have := hw ((((List.range len).map D).length + ((List.range (m - len)).map fun j => D (len + j)).length) * Try.prog.bytesOf e) (by
        rw [hx1]
        simp only [DataW.weights, ht]
        exact List.mem_cons_self)
      simp only [List.length_map, List.length_range] at this
      refine Nat.le_trans (Nat.mul_le_mul_right _ ?_) this
      omega
end
end Go.Proofs.Ytkodhlaojlgejaa
namespace Go.Proofs.Ytkodhlaojlgejaa
/-- Of the entries of one key up to a number the one with the greatest, as one sees it who knows the one ahead. -/
def lastB (p : Option Er) (e : Er) (s : Int) : Bool := decide (e.2.1 ≤ s) && (match p with | none => true | some q => decide (s < q.2.1) || decide (q.1 ≠ e.1))
/-- Those of a list that are wanted by one who knows the one ahead. -/
def pickF (K : Option Er → Er → Bool) : Option Er → List Er → List Er
  | _, [] => []
  | p, e :: l => if K p e = true then e :: pickF K (some e) l else pickF K (some e) l
theorem pickF_snoc (K : Option Er → Er → Bool) : ∀ (l : List Er) (p : Option Er) (e : Er), pickF K p (l ++ [e]) = pickF K p l ++ (if K (l.getLast?.or p) e = true then [e] else [])
  | [], p, e => by cases h : K p e <;> simp [pickF, h]
  | x :: l, p, e => by
    have h : (x :: l).getLast?.or p = l.getLast?.or (some x) := by
      cases l with
      | nil => simp
      | cons y l => rw [List.getLast?_cons_cons]; cases h : (y :: l).getLast? with
        | none => simp at h
        | some z => simp
    have ih := pickF_snoc K l (some x) e
    rw [h]
    simp only [pickF, List.cons_append, ih]
    split <;> simp
theorem pickF_len (K : Option Er → Er → Bool) : ∀ (l : List Er) (p : Option Er), (pickF K p l).length ≤ l.length
  | [], _ => by simp [pickF]
  | x :: l, p => by
    have ih := pickF_len K l (some x)
    simp only [pickF]
    split <;> simp <;> omega
theorem pickF_sub (K : Option Er → Er → Bool) : ∀ (l : List Er) (p : Option Er), List.Sublist (pickF K p l) l
  | [], _ => by simp [pickF]
  | x :: l, p => by
    have ih := pickF_sub K l (some x)
    simp only [pickF]
    split
    · exact ih.cons_cons x
    · exact ih.cons x
/-- One more, as a walk sees it. -/
theorem pickF_step {K : Option Er → Er → Bool} {l : List Er} {i : Nat} {e : Er} (h : l[i]? = some e) : pickF K none (l.take (i + 1)) = pickF K none (l.take i) ++ (if K (if i = 0 then none else l[i - 1]?) e = true then [e] else []) := by
  have hlt := (List.getElem?_eq_some_iff.1 h).1
  have e1 : l.take (i + 1) = l.take i ++ [e] := by rw [List.take_add_one, h]; rfl
  have e2 : (l.take i).getLast?.or none = (if i = 0 then none else l[i - 1]?) := by
    rw [Option.or_none, List.getLast?_eq_getElem?, List.length_take, Nat.min_eq_left (by omega)]
    split
    · next h0 => subst h0; simp
    · rw [List.getElem?_take_of_lt (by omega)]
  rw [e1, pickF_snoc, e2]
/-- What is seen at a number. -/
def seenK (s : Int) (p : Option Er) (e : Er) : Bool := lastB p e s && !e.2.2.1
def keyval (e : Er) : Pr := (e.1, e.2.2.2)
def visE (s : Int) (l : List Er) : List Pr := (pickF (seenK s) none l).map keyval
/-- What is not forgotten. -/
def thinK (m : Int) (b : Bool) (p : Option Er) (e : Er) : Bool := decide (m < e.2.1) || (lastB p e m && !(b && e.2.2.1))
def thinE (m : Int) (b : Bool) (l : List Er) : List Er := pickF (thinK m b) none l
theorem OrdF.pw : ∀ {l : List Er} {p : Er}, OrdF p l ↔ (∀ e ∈ l, GoodE e) ∧ List.Pairwise (fun x y => ordE x y < 0) (p :: l)
  | [], p => by simp [OrdF]
  | e :: l, p => by
    have ih := @OrdF.pw l e
    constructor
    · intro h
      have h1 := OrdF.good h
      have h2 := OrdF.above h
      exact ⟨h1, List.pairwise_cons.2 ⟨h2, (ih.1 h.2.2).2⟩⟩
    · rintro ⟨h1, h2⟩
      obtain ⟨h3, h4⟩ := List.pairwise_cons.1 h2
      exact ⟨h1 e (List.mem_cons_self ..), h3 e (List.mem_cons_self ..), ih.2 ⟨fun x hx => h1 x (List.mem_cons_of_mem _ hx), h4⟩⟩
theorem OrdL.pw : ∀ {l : List Er}, OrdL l ↔ (∀ e ∈ l, GoodE e) ∧ List.Pairwise (fun x y => ordE x y < 0) l
  | [] => by simp [OrdL]
  | e :: l => by
    have := @OrdF.pw l e
    constructor
    · intro h
      obtain ⟨h1, h2⟩ := this.1 h.2
      exact ⟨fun x hx => (List.mem_cons.1 hx).elim (fun e => e ▸ h.1) (h1 x), h2⟩
    · rintro ⟨h1, h2⟩
      exact ⟨h1 e (List.mem_cons_self ..), this.2 ⟨fun x hx => h1 x (List.mem_cons_of_mem _ hx), h2⟩⟩
theorem OrdL.sub {l m : List Er} (h : OrdL l) (hs : List.Sublist m l) : OrdL m := by
  obtain ⟨h1, h2⟩ := OrdL.pw.1 h
  exact OrdL.pw.2 ⟨fun e he => h1 e (hs.subset he), h2.sublist hs⟩
/-- The same, told of the whole list. -/
def topB (l : List Er) (s : Int) (e : Er) : Bool := decide (e.2.1 ≤ s) && l.all (fun q => decide (q.1 ≠ e.1) || decide (s < q.2.1) || decide (q.2.1 ≤ e.2.1))
theorem topB_iff {l : List Er} {s : Int} {e : Er} : topB l s e = true ↔ e.2.1 ≤ s ∧ ∀ q ∈ l, q.1 = e.1 → q.2.1 ≤ s → q.2.1 ≤ e.2.1 := by
  unfold topB
  rw [Bool.and_eq_true, decide_eq_true_iff, List.all_eq_true]
  refine and_congr_right fun _ => forall_congr' fun q => forall_congr' fun _ => ?_
  simp only [Bool.or_eq_true, decide_eq_true_iff, ne_eq]
  constructor
  · rintro ((h | h) | h) h1 h2
    · exact absurd h1 h
    · omega
    · exact h
  · intro h
    by_cases h1 : q.1 = e.1
    · by_cases h2 : q.2.1 ≤ s
      · exact .inr (h h1 h2)
      · exact .inl (.inr (by omega))
    · exact .inl (.inl h1)
theorem ordE_key {x y : Er} (h : ordE x y < 0) (hk : x.1 = y.1) : y.2.1 < x.2.1 := by
  rcases ordE_lt.1 h with h | ⟨-, h⟩
  · rw [hk] at h
    rw [cmpL_self] at h
    omega
  · exact h
theorem ordE_between {x y z : Er} (h : ordE x y < 0) (g : ordE y z < 0) (hk : x.1 = z.1) : y.1 = z.1 := by
  rcases ordE_lt.1 h with h | ⟨h, -⟩
  · rcases ordE_lt.1 g with g | ⟨g, -⟩
    · have := cmpL_back _ _ _ h g
      rw [hk, cmpL_self] at this
      omega
    · exact g
  · exact h.symm.trans hk
/-- Of entries in order it is enough to know the one ahead. -/
theorem last_top {l r : List Er} {e : Er} {s : Int} (h : OrdL (l ++ e :: r)) : lastB l.getLast? e s = topB (l ++ e :: r) s e := by
  obtain ⟨-, hp⟩ := OrdL.pw.1 h
  obtain ⟨p1, p2, p3⟩ := List.pairwise_append.1 hp
  obtain ⟨p4, p5⟩ := List.pairwise_cons.1 p2
  rw [Bool.eq_iff_iff, topB_iff]
  unfold lastB
  rw [Bool.and_eq_true, decide_eq_true_iff]
  refine and_congr_right fun hs => ?_
  constructor
  · intro hl q hq hk hqs
    rcases List.mem_append.1 hq with hq | hq
    · exfalso
      have hlt := ordE_key (p3 q hq e (List.mem_cons_self ..)) hk
      cases hl' : l.getLast? with
      | none => rw [List.getLast?_eq_none_iff] at hl'; subst hl'; cases hq
      | some z =>
        rw [hl'] at hl
        simp only [Bool.or_eq_true, decide_eq_true_iff] at hl
        obtain ⟨l', rfl⟩ := List.getLast?_eq_some_iff.1 hl'
        have hz : z ∈ l' ++ [z] := by simp
        obtain ⟨q1, -, q3⟩ := List.pairwise_append.1 p1
        have hqz : q = z ∨ ordE q z < 0 := by
          rcases List.mem_append.1 hq with hq | hq
          · exact .inr (q3 q hq z (by simp))
          · exact .inl (by simpa using hq)
        have hze := p3 z hz e (List.mem_cons_self ..)
        have hzk : z.1 = e.1 := by
          rcases hqz with rfl | hqz
          · exact hk
          · exact ordE_between hqz hze hk
        have hzs : z.2.1 ≤ s := by
          rcases hqz with rfl | hqz
          · exact hqs
          · have := ordE_key hqz (hk.trans hzk.symm)
            omega
        rcases hl with hl | hl
        · omega
        · exact hl hzk
    · rcases List.mem_cons.1 hq with rfl | hq
      · exact Int.le_refl _
      · have := ordE_key (p4 q hq) hk.symm
        omega
  · intro ha
    cases hl' : l.getLast? with
    | none => rfl
    | some z =>
      have hz : z ∈ l := List.mem_of_getLast? hl'
      simp only [Bool.or_eq_true, decide_eq_true_iff]
      by_cases h1 : z.1 = e.1
      · left
        have h2 := ordE_key (p3 z hz e (List.mem_cons_self ..)) h1
        have h3 := ha z (List.mem_append_left _ hz) h1
        omega
      · exact .inr h1
theorem pick_top {K : Option Er → Er → Bool} {T : Er → Bool} {L : List Er} (h : ∀ (l r : List Er) (e : Er), l ++ e :: r = L → K l.getLast? e = T e) : pickF K none L = L.filter T := by
  have : ∀ (r l : List Er), l ++ r = L → pickF K l.getLast? r = r.filter T := by
    intro r
    induction r with
    | nil => intro l _; simp [pickF]
    | cons e r ih =>
      intro l hl
      have h1 := h l r e hl
      have h2 := ih (l ++ [e]) (by rw [List.append_assoc]; exact hl)
      rw [List.getLast?_concat] at h2
      simp only [pickF, h1, h2, List.filter_cons]
  exact this L [] rfl
theorem vis_filter {L : List Er} {s : Int} (h : OrdL L) : visE s L = (L.filter (fun e => topB L s e && !e.2.2.1)).map keyval := by
  unfold visE
  rw [pick_top (T := fun e => topB L s e && !e.2.2.1) fun l r e hl => by
    unfold seenK
    subst hl
    rw [last_top h]]
theorem thin_filter {L : List Er} {m : Int} {b : Bool} (h : OrdL L) : thinE m b L = L.filter (fun e => decide (m < e.2.1) || (topB L m e && !(b && e.2.2.1))) := by
  unfold thinE
  exact pick_top fun l r e hl => by
    unfold thinK
    subst hl
    rw [last_top h]
theorem thin_ord {L : List Er} {m : Int} {b : Bool} (h : OrdL L) : OrdL (thinE m b L) := h.sub (pickF_sub _ _ _)
/-- Who looks at the mark or later sees the same. -/
theorem vis_thin {L : List Er} {m s : Int} {b : Bool} (h : OrdL L) (hm : m ≤ s) : visE s (thinE m b L) = visE s L := by
  rw [vis_filter (thin_ord h), vis_filter h]
  have hT := thin_filter (m := m) (b := b) h
  obtain ⟨T, hTT⟩ : ∃ T, thinE m b L = T := ⟨_, rfl⟩
  rw [hTT] at hT ⊢
  have hmem : ∀ e, e ∈ T ↔ e ∈ L ∧ (m < e.2.1 ∨ (topB L m e = true ∧ ¬ (b = true ∧ e.2.2.1 = true))) := fun e => by
    rw [hT, List.mem_filter]
    simp [Bool.or_eq_true, Bool.and_eq_true]
    cases b <;> simp
  congr 1
  conv => lhs; rw [hT, List.filter_filter]
  refine List.filter_congr fun e he => ?_
  rw [Bool.eq_iff_iff]
  have hPe : (decide (m < e.2.1) || (topB L m e && !(b && e.2.2.1))) = true ↔ e ∈ T := by
    rw [hT, List.mem_filter]
    exact ⟨fun h => ⟨he, h⟩, fun h => h.2⟩
  rw [Bool.and_eq_true, hPe, Bool.and_eq_true, Bool.and_eq_true, topB_iff, topB_iff]
  constructor
  · rintro ⟨⟨⟨h1, h2⟩, h3⟩, h4⟩
    refine ⟨⟨h1, fun q hq hk hqs => ?_⟩, h3⟩
    by_cases hqm : m < q.2.1
    · exact h2 q (by rw [← hT]; exact (hmem q).2 ⟨hq, .inl hqm⟩) hk hqs
    · rcases ((hmem e).1 h4).2 with h5 | ⟨h5, -⟩
      · omega
      · exact (topB_iff.1 h5).2 q hq hk (by omega)
  · rintro ⟨⟨h1, h2⟩, h3⟩
    have h4 : e ∈ T := (hmem e).2 ⟨he, by
      by_cases h5 : m < e.2.1
      · exact .inl h5
      · refine .inr ⟨topB_iff.2 ⟨by omega, fun q hq hk hqs => h2 q hq hk (by omega)⟩, fun h6 => ?_⟩
        rw [h6.2] at h3
        cases h3⟩
    exact ⟨⟨⟨h1, fun q hq hk hqs => h2 q ((hmem q).1 (by rw [hT]; exact hq)).1 hk hqs⟩, h3⟩, h4⟩
/-- Forgotten twice is as once. -/
theorem thin_thin {L : List Er} {m : Int} {b : Bool} (h : OrdL L) : thinE m b (thinE m b L) = thinE m b L := by
  rw [thin_filter (thin_ord h)]
  have hT := thin_filter (m := m) (b := b) h
  obtain ⟨T, hTT⟩ : ∃ T, thinE m b L = T := ⟨_, rfl⟩
  rw [hTT] at hT ⊢
  refine List.filter_eq_self.2 fun e he => ?_
  have he' := he
  rw [hT, List.mem_filter] at he'
  obtain ⟨h1, h2⟩ := he'
  rw [Bool.or_eq_true] at h2 ⊢
  rcases h2 with h2 | h2
  · exact .inl h2
  · rw [Bool.and_eq_true] at h2
    refine .inr (Bool.and_eq_true _ _ ▸ ⟨?_, h2.2⟩)
    obtain ⟨h3, h4⟩ := topB_iff.1 h2.1
    refine topB_iff.2 ⟨h3, fun q hq hk hqs => h4 q ?_ hk hqs⟩
    rw [hT] at hq
    exact (List.mem_filter.1 hq).1
end Go.Proofs.Ytkodhlaojlgejaa
namespace Go.Proofs.Ytkodhlaojlgejaa
open Go.RowKit
/-- The one ahead, if there is one. -/
def aheadE (L : List Er) (i : Nat) : Option Er := if i = 0 then none else L[i - 1]?
theorem lastB_no {p : Option Er} {e : Er} {s : Int} (h : ¬ e.2.1 ≤ s) : lastB p e s = false := by
  unfold lastB
  rw [decide_eq_false h]
  rfl
theorem lastB_none {e : Er} {s : Int} (h : e.2.1 ≤ s) : lastB none e s = true := by
  unfold lastB
  rw [decide_eq_true h]
  rfl
theorem lastB_some {e q : Er} {s : Int} (h : e.2.1 ≤ s) : lastB (some q) e s = (decide (s < q.2.1) || decide (q.1 ≠ e.1)) := by
  unfold lastB
  rw [decide_eq_true h]
  rfl
set_option maxRecDepth 100000 in
set_option maxHeartbeats 4000000 in
theorem isLast_any (A : Option Addr) (l : List En) (n c i : Nat) (s : Int) (x : En) (w : World) (hn : l.length = n) (h : Lies w A (evals l)) (hi : EIns w l) (hl : n * 64 ≤ 140737488351232) (hx : l[i]? = some x) :
    Calls Try.prog 46 #[.slice A n c, .int .i64 i, .int .i64 s] w fun e w' => e = .returned (.bool (lastB (aheadE (ers l) i) x.rd s)) ∧ ∃ q, w' = w.drewN q := by
  have hlt := (List.getElem?_eq_some_iff.1 hx).1
  obtain ⟨ad, rfl, a0, a1, -, -⟩ := lies_entry h hx
  have k0 : (i : Int) < n := by omega
  obtain ⟨b, hb⟩ : ∃ b, lastB (aheadE (ers l) i) x.rd s = b := ⟨_, rfl⟩
  have hr : x.rd.2.1 = x.s := rfl
  rw [hb]
  by_cases hs : s < x.s
  · have d0 : decide (s < x.s) = true := decide_eq_true hs
    have HB : Hid (b = false) := Lib.hid (by rw [← hb]; exact lastB_no (by rw [hr]; omega))
    clear h hi hl hx hb hr hs hn hlt
    go_enter Try.func46, Try.ntmps46
    go_wp2_with fail
    go_ret
    exact ⟨by rw [HB.out]; try rfl, 0, rfl⟩
  have d0 : decide (s < x.s) = false := decide_eq_false hs
  obtain h0 | ⟨j, hj⟩ : i = 0 ∨ ∃ j, i = j + 1 := by
    cases i with
    | zero => exact .inl rfl
    | succ j => exact .inr ⟨j, rfl⟩
  · have HB : Hid (b = true) := Lib.hid (by rw [← hb, aheadE, if_pos h0]; exact lastB_none (by rw [hr]; omega))
    have d1 : ((i : Int) == 0) = true := by simpa using h0
    clear h hi hl hx hb hr hs hn hlt  h0
    go_enter Try.func46, Try.ntmps46
    go_upto_region 3 with fail
    go_quiet (fail)
    go_wp2_with fail
    go_ret
    exact ⟨by rw [HB.out]; try rfl, _, rfl⟩
  have d1 : ((i : Int) == 0) = false := by simp; omega
  have hp := List.getElem?_eq_getElem (l := l) (i := j) (by omega)
  generalize l[j]'(by omega) = p at hp
  have e1 : aheadE (ers l) i = some p.rd := by rw [aheadE, if_neg (by omega), show i - 1 = j by omega]; exact ers_get hp
  have a2 := lies_entry_at h hp
  obtain ⟨b0, b1, -, -⟩ := a2
  have w1 : wrap64 ((i : Int) - 1) = (j : Int) := by unfold wrap64; omega
  have w2 : IntKind.i64.wrap ((i : Int) - 1) = (j : Int) := by rw [IntKind.wrap_i64]; omega
  have j0 : (j : Int) < n := by omega
  have IX := (hi x (List.mem_of_getElem? hx)).1
  have IP := (hi p (List.mem_of_getElem? hp)).1
  obtain ⟨xn, hxn⟩ : ∃ m, x.k.l.length = m := ⟨_, rfl⟩
  obtain ⟨pn, hpn⟩ : ∃ m, p.k.l.length = m := ⟨_, rfl⟩
  rw [hxn] at a0 IX
  rw [hpn] at b0 IP
  by_cases hps : s < p.s
  · have HB : Hid (b = true) := Lib.hid (by rw [← hb, e1, lastB_some (by rw [hr]; omega)]; simp [show p.rd.2.1 = p.s from rfl, hps])
    have d2 : decide (s < p.s) = true := decide_eq_true hps
    clear h hi hl hx hb hr hs hn hlt  hj hp e1 hps hxn hpn IX IP
    go_enter Try.func46, Try.ntmps46
    go_upto_region 3 with fail
    go_quiet (fail)
    go_wp2_with fail
    go_ret
    exact ⟨by rw [HB.out]; try rfl, _, rfl⟩
  have d2 : decide (s < p.s) = false := decide_eq_false hps
  have HB : Hid (b = !decide (p.k.l = x.k.l)) := Lib.hid (by rw [← hb, e1, lastB_some (by rw [hr]; omega)]; simp [show p.rd.2.1 = p.s from rfl, hps, show p.rd.1 = p.k.l from rfl, show x.rd.1 = x.k.l from rfl])
  have HEQ : Hid (∀ q, Calls Try.prog 34 #[.slice p.k.a pn p.k.c, .slice x.k.a xn x.k.c] (w.drewN q) fun e w' => e = .returned (.bool (decide (p.k.l = x.k.l))) ∧ w' = w.drewN q) := Lib.hid (fun q => equal_any _ _ _ _ _ _ _ _ _ (IP.kept (below_drewN (Below.refl _ w) q)) (IX.kept (below_drewN (Below.refl _ w) q)))
  clear h hi hl hx hb hr hs hn hlt  hj hp e1 hps hxn hpn IX IP
  obtain ⟨q, hq⟩ : ∃ q, decide (p.k.l = x.k.l) = q := ⟨_, rfl⟩
  rw [hq] at HB HEQ
  clear hq
  cases q
  all_goals
    go_enter Try.func46, Try.ntmps46
    go_upto_region 3 with fail
    go_quiet (first | (go_at_call 34; refine Calls.quiet_of_same (HEQ.out _)))
    go_wp2_with fail
    go_ret
    exact ⟨by rw [HB.out]; try rfl, _, rfl⟩
end Go.Proofs.Ytkodhlaojlgejaa
namespace Go.Proofs.Ytkodhlaojlgejaa
open Go.RowKit
theorem block_besideP {w w' : World} {D g : Nat} {C : Option Addr} {d : Nat} {T : List Bp} {cs : Array Value} {ty : TypeId} {fr : Nat × Nat} (h : w.heap[g]? = some (.cells cs ty fr)) (hs : Prow w D C d T) (ht : ty ≠ 65) (hg : w.grownBy w' (Value.slice C T.length d).ownBlock) : w'.heap[g]? = some (.cells cs ty fr) := by
  have hlt : g < w.heap.size := (Array.getElem?_eq_some_iff.1 h).1
  rw [hg.block g hlt, h]
  intro e
  rcases hs.2 with ⟨hn, _⟩ | ⟨g', cap', cur', e', _, h2', _⟩
  · rw [hn] at e
    simp [Value.ownBlock] at e
  · rw [e'] at e
    obtain rfl : g = g' := by simpa [Value.ownBlock] using e
    rw [h] at h2'
    injection h2' with h2'
    injection h2' with _ h2'
    exact ht h2'
theorem box_obj {w W : World} {cs : Array Value} {ty : TypeId} (hb : Below (w.alloc (.cells cs ty)).heap.size (w.alloc (.cells cs ty)) W) : W.heap[w.heap.size]? = some (.cells cs ty (0, 0)) :=
  (hb.block w.heap.size (by simp)).trans (heap_alloc_new w _)
theorem box_four {W : World} {g : Nat} {a b c d : Value} {ty : TypeId} (h : W.heap[g]? = some (.cells #[a, b, c, d] ty (0, 0))) : W.cell? ⟨g, 0, none⟩ = some a ∧ W.cell? ⟨g, 1, none⟩ = some b ∧ W.cell? ⟨g, 2, none⟩ = some c ∧ W.cell? ⟨g, 3, none⟩ = some d := by
  refine ⟨?_, ?_, ?_, ?_⟩ <;> simp [World.cell?, h]
/-- Pairs that are made, or the refusal. -/
def PMade (ok : Bool) (P : List Pr) (w : World) (e : Ending) (w' : World) : Prop := ∃ (l' : List Bp) (A' : Option Addr) (n' c' : Nat), e = .returned (.tuple #[.slice A' n' c', .int .i64 (if ok = true then 0 else 30)]) ∧ l'.length = n' ∧ rds l' = (if ok = true then P else []) ∧ Mades w' w.heap.size l' ∧ Prow w' w.heap.size A' c' l' ∧ Below w.heap.size w w'
theorem vis_step {L : List Er} {i : Nat} {e : Er} {s : Int} (h : L[i]? = some e) : (pickF (seenK s) none (L.take (i + 1))).map keyval = (pickF (seenK s) none (L.take i)).map keyval ++ (if (lastB (aheadE L i) e s && !e.2.2.1) = true then [keyval e] else []) := by
  rw [pickF_step h, List.map_append]
  unfold seenK aheadE
  split <;> split <;> simp_all
set_option maxRecDepth 100000 in
set_option maxHeartbeats 8000000 in
theorem visible_any (A : Option Addr) (l : List En) (n c : Nat) (s : Int) (w : World) (hn : l.length = n) (h : Lies w A (evals l)) (hi : EIns w l) (hf : ∀ q ∈ l, EFit q) (hl : n * 64 ≤ 140737488351232) (hk : ∀ q ∈ l, q.k.l.length ≤ 140737488355328 ∧ q.v.l.length ≤ 140737488355328) :
    Calls Try.prog 26 #[.slice A n c, .int .i64 s] w (PMade (decide (OrdL (ers l))) (visE s (ers l)) w) := by
  have HMS := Lib.hid (mayStand_any A l n c w hn h hi hf hl)
  obtain ⟨od, hod⟩ : ∃ od, decide (OrdL (ers l)) = od := ⟨_, rfl⟩
  rw [hod] at HMS ⊢
  have HP := Lib.hid (fun (w' : World) (hb : Below w.heap.size w w') => h.kept hb)
  have HI := Lib.hid (fun (w' : World) (hb : Below w.heap.size w w') => hi.kept hb)
  have HK := Lib.hid hk
  have HN := Lib.hid hn
  have HL9 := Lib.hid hl
  clear h hi hn hk hf hod
  cases od
  · go_enter Try.func26, Try.ntmps26
    go_wp2_with (go_at_call 44; refine HMS.out.mono ?_; rintro e w2 ⟨rfl, b2⟩; have B2 := Lib.hid b2; clear b2)
    go_ret2
    exact ⟨[], none, 0, 0, rfl, rfl, rfl, Mades.nil _ _, Prow.nil _ _, B2.out⟩
  go_enter Try.func26, Try.ntmps26
  go_wp2_with (go_at_call 44; refine HMS.out.mono ?_; rintro e w2 ⟨rfl, b2⟩; have B2 := Lib.hid b2; clear b2)
  go_loopw [6, 14] (fun t6 t14 wr => ∃ (k j : Nat) (A2 : Option Addr) (c2 : Nat) (l' : List Bp), k ≤ n ∧ t14 = .int .i64 k ∧ t6 = .slice A2 j c2 ∧ Hid (l'.length = j ∧ j ≤ k) ∧ Hid (rds l' = (pickF (seenK s) none ((ers l).take k)).map keyval) ∧ Hid (Mades wr w.heap.size l') ∧ Hid (Prow wr w.heap.size A2 c2 l') ∧ Hid (Below w.heap.size w wr)) (fun _ t14 _ => n - (intOf t14).toNat)
  case atStart => exact ⟨0, 0, none, 0, [], by omega, rfl, rfl, Lib.hid ⟨rfl, Nat.le_refl _⟩, Lib.hid rfl, Lib.hid (Mades.nil _ _), Lib.hid (Prow.nil _ _), B2⟩
  case round =>
    obtain ⟨k, j, A2, c2, l', hk, rfl, rfl, hl2, hr, hm, r2, b2⟩ := hrel
    by_cases hlt : k < n
    · have hq := List.getElem?_eq_getElem (l := l) (i := k) (by have := HN.out; omega)
      generalize l[k]'(by have := HN.out; omega) = x at hq
      obtain ⟨ad, rfl, a0, a1, a2, a3⟩ := lies_entry (HP.out _ b2.out) hq
      have hmem := List.mem_of_getElem? hq
      have HX := Lib.hid (fun (w' : World) (hb : Below w.heap.size w w') => HI.out w' hb x hmem)
      have HXL := Lib.hid (HK.out x hmem)
      have HQ := Lib.hid hq
      have HST : Hid (∀ s, (pickF (seenK s) none ((ers l).take (k + 1))).map keyval = (pickF (seenK s) none ((ers l).take k)).map keyval ++ (if (lastB (aheadE (ers l) k) x.rd s && !x.d) = true then [keyval x.rd] else [])) := Lib.hid (fun s => vis_step (ers_get hq))
      obtain ⟨⟨ka, kc, kl⟩, xs, d, ⟨va, vc, vl⟩⟩ := x
      obtain ⟨m, hm2⟩ : ∃ m, kl.length = m := ⟨_, rfl⟩
      obtain ⟨z, hz2⟩ : ∃ z, vl.length = z := ⟨_, rfl⟩
      simp only at a0 a1 a2 a3 HX HXL HST
      rw [hm2] at a0
      rw [hz2] at a3
      have HM2 := Lib.hid (And.intro hm2 hz2)
      have k0 : (k : Int) < n := by omega
      have WS : Hid (w.heap.size ≤ wr.heap.size) := Lib.hid b2.out.size
      clear hq hm2 hz2 hmem
      go_upto_region 7 with fail
      obtain ⟨wx, hwx⟩ : ∃ wx, wr.alloc (.cells #[.slice ka m kc, .int .i64 xs, .bool d, .slice va z vc] 26) = wx := ⟨_, rfl⟩
      have HOB : Hid (∀ W, Below wx.heap.size wx W → W.heap[wr.heap.size]? = some (.cells #[.slice ka m kc, .int .i64 xs, .bool d, .slice va z vc] 26 (0, 0))) := Lib.hid (fun W hb => by subst hwx; exact box_obj hb)
      have BX : Hid (Below w.heap.size w wx) := Lib.hid (hwx ▸ b2.out.alloc WS.out _)
      have BR : Hid (Below wr.heap.size wr wx) := Lib.hid (hwx ▸ below_new _ _)
      rw [hwx]
      clear hwx a0 a1 a2 a3
      obtain ⟨bb, hbb⟩ : ∃ bb, lastB (aheadE (ers l) k) (⟨⟨ka, kc, kl⟩, xs, d, ⟨va, vc, vl⟩⟩ : En).rd s = bb := ⟨_, rfl⟩
      have HBB := Lib.hid hbb
      have HLA : Hid (Calls Try.prog 46 #[.slice (some ad) n c, .int .i64 k, .int .i64 s] wx fun e w' => e = .returned (.bool bb) ∧ ∃ q, w' = wx.drewN q) := Lib.hid (by
        have := isLast_any (some ad) l n c k s _ wx HN.out (HP.out _ BX.out) (HI.out _ BX.out) HL9.out HQ.out
        rwa [hbb] at this)
      clear hbb
      go_upto_region 7 with fail
      cases bb
      · go_wp2_with (go_at_call 46; refine HLA.out.mono ?_; rintro e w6 ⟨rfl, q6, hw6⟩; have B6 : Hid (Below wr.heap.size wr w6) := Lib.hid (by rw [hw6]; exact below_drewN BR.out q6); clear hw6)
        go_roundw
        case rel => exact ⟨k + 1, j, A2, c2, l', by omega, by go_num, rfl, Lib.hid ⟨hl2.out.1, by have := hl2.out; omega⟩, Lib.hid (by rw [HST.out, HBB.out, hr.out]; simp), Lib.hid (hm.out.kept B6.out (Nat.le_refl _)), Lib.hid (r2.out.kept B6.out (Nat.le_refl _)), Lib.hid (b2.out.trans (B6.out.mono WS.out))⟩
        case measure => simp [intOf]; omega
      cases d
      · go_upto_region 8 with (go_at_call 46; refine HLA.out.mono ?_; rintro e w6 ⟨rfl, q6, hw6⟩; have B6 : Hid (Below wx.heap.size wx w6) := Lib.hid (by rw [hw6]; exact below_drewN (Below.refl _ _) q6); obtain ⟨c0, c1, c2', c3⟩ := box_four (HOB.out w6 B6.out); clear hw6)
        clear c0 c1 c2' c3
        have HO6 : Hid (∀ W, Below w6.heap.size w6 W → W.heap[wr.heap.size]? = some (.cells #[.slice ka m kc, .int .i64 xs, .bool false, .slice va z vc] 26 (0, 0))) := Lib.hid (fun W hb => HOB.out W (below_then B6.out hb))
        have HC6 : Hid (∀ W, Below w6.heap.size w6 W → W.cell? ⟨wr.heap.size, 0, none⟩ = some (.slice ka m kc) ∧ W.cell? ⟨wr.heap.size, 3, none⟩ = some (.slice va z vc)) := Lib.hid (fun W hb => by
          have := box_four (HO6.out W hb)
          exact ⟨this.1, this.2.2.2⟩)
        have W6 : Hid (Below w.heap.size w w6) := Lib.hid (below_then BX.out B6.out)
        have R6 : Hid (Below wr.heap.size wr w6) := Lib.hid (below_then BR.out B6.out)
        have HCK : Hid (∀ W, Below w6.heap.size w6 W → Calls Try.prog 47 #[.slice ka m kc] W (Longer W W.heap.size kl)) := Lib.hid (fun W hb => clone_any ka kl m kc W HM2.out.1 (HX.out W (below_then W6.out hb)).1.bys HXL.out.1)
        have HCV : Hid (∀ W, Below w6.heap.size w6 W → Calls Try.prog 47 #[.slice va z vc] W (Longer W W.heap.size vl)) := Lib.hid (fun W hb => clone_any va vl z vc W HM2.out.2 (HX.out W (below_then W6.out hb)).2.bys HXL.out.2)
        have RR : Hid (Mades w6 w.heap.size l' ∧ Prow w6 w.heap.size A2 c2 l') := Lib.hid ⟨hm.out.kept R6.out (Nat.le_refl _), r2.out.kept R6.out (Nat.le_refl _)⟩
        have WS6 : Hid (w.heap.size ≤ w6.heap.size) := Lib.hid W6.out.size
        have BB := Lib.hid (Below.refl w6.heap.size w6)
        have T1 := Lib.hid trivial
        have T2 := Lib.hid trivial
        have T3 := Lib.hid trivial
        go_region_held3 (fun W => W.cell? ⟨wr.heap.size, 0, none⟩ = some (.slice ka m kc) ∧ W.cell? ⟨wr.heap.size, 3, none⟩ = some (.slice va z vc)) (first | exact HC8.out | (refine HC6.out _ ?_; (repeat (first | with_reducible exact BB.out | with_reducible exact Below.refl _ _ | with_reducible refine Below.drew ?_ | with_reducible refine below_al ?_ _)); done) | go_keep) (first
          | (have t1 := T1; go_at_call 47; refine (HCK.out _ (by repeat (first | with_reducible exact BB.out | with_reducible exact Below.refl _ _ | with_reducible refine Below.drew ?_ | with_reducible refine below_al ?_ _))).mono ?_; rintro e w7 ⟨A6, c6, rfl, r6, b6⟩; have K6 : Hid (Row w7 w.heap.size A6 c6 kl) := Lib.hid (r6.mono (by have := WS6.out; have := BB.out.size; first | omega | (simp; omega) | (simp only [drew_size, World.size_alloc]; omega))); have BB : Hid (Below w6.heap.size w6 w7) := Lib.hid (below_then (by repeat (first | with_reducible exact BB.out | with_reducible exact Below.refl _ _ | with_reducible refine Below.drew ?_ | with_reducible refine below_al ?_ _)) b6); clear r6 b6 T1 t1)
          | (have t2 := T2; go_at_call 47; refine (HCV.out _ (by repeat (first | with_reducible exact BB.out | with_reducible exact Below.refl _ _ | with_reducible refine Below.drew ?_ | with_reducible refine below_al ?_ _))).mono ?_; rintro e w8 ⟨A7, c7, rfl, r7, b7⟩; have K7 : Hid (Row w8 w.heap.size A7 c7 vl) := Lib.hid (r7.mono (by have := WS6.out; have := BB.out.size; first | omega | (simp; omega) | (simp only [drew_size, World.size_alloc]; omega))); have K6 : Hid (Row w8 w.heap.size A6 c6 kl) := Lib.hid (K6.out.kept (below_then (by repeat (first | with_reducible exact Below.refl _ _ | with_reducible refine Below.drew ?_ | with_reducible refine below_al ?_ _)) b7) (Nat.le_refl _)); have BB : Hid (Below w6.heap.size w6 w8) := Lib.hid (below_then (by repeat (first | with_reducible exact BB.out | with_reducible exact Below.refl _ _ | with_reducible refine Below.drew ?_ | with_reducible refine below_al ?_ _)) b7); clear r7 b7 T2 t2)
          | (refine step_append_prow _ (by rfl) (.tmp 28) (.tmp 36) (by rfl) w.heap.size A2 c2 l' [⟨⟨A6, c6, kl⟩, ⟨A7, c7, vl⟩⟩] _ j 1 1 rfl rfl hl2.out.1 rfl ?_ ?_ ?_ ?_ ?_; (refine RR.out.2.kept ?_ (Nat.le_refl _); (repeat (first | with_reducible exact BB.out | with_reducible exact Below.refl _ _ | with_reducible refine Below.drew ?_ | with_reducible refine below_al ?_ _))); (refine lit_pair _ A6 A7 c6 c7 kl vl _ _ rfl rfl); (have := WS6.out; have := BB.out.size; first | omega | (simp; omega) | (simp only [drew_size, World.size_alloc]; omega)); (have := hl2.out; have := HL9.out; simp only [List.length_singleton]; omega); intro A8 c8 w9 r8 b8 g8; have R8 := Lib.hid r8; have CM : Hid (Mades w9 w.heap.size l') := Lib.hid (by have g := g8; rw [← hl2.out.1] at g; refine Mades.besideP (D := w.heap.size) ?_ ?_ g; (refine RR.out.1.kept ?_ (Nat.le_refl _); (repeat (first | with_reducible exact BB.out | with_reducible exact Below.refl _ _ | with_reducible refine Below.drew ?_ | with_reducible refine below_al ?_ _))); (refine RR.out.2.kept ?_ (Nat.le_refl _); (repeat (first | with_reducible exact BB.out | with_reducible exact Below.refl _ _ | with_reducible refine Below.drew ?_ | with_reducible refine below_al ?_ _)))); have K6 : Hid (Row w9 w.heap.size A6 c6 kl) := Lib.hid (by have g := g8; rw [← hl2.out.1] at g; refine Row.besideP (D := w.heap.size) ?_ ?_ g; (exact K6.out.alloc _); (refine RR.out.2.kept ?_ (Nat.le_refl _); (repeat (first | with_reducible exact BB.out | with_reducible exact Below.refl _ _ | with_reducible refine Below.drew ?_ | with_reducible refine below_al ?_ _)))); have K7 : Hid (Row w9 w.heap.size A7 c7 vl) := Lib.hid (by have g := g8; rw [← hl2.out.1] at g; refine Row.besideP (D := w.heap.size) ?_ ?_ g; (exact K7.out.alloc _); (refine RR.out.2.kept ?_ (Nat.le_refl _); (repeat (first | with_reducible exact BB.out | with_reducible exact Below.refl _ _ | with_reducible refine Below.drew ?_ | with_reducible refine below_al ?_ _)))); have HC8 : Hid (w9.cell? ⟨wr.heap.size, 0, none⟩ = some (.slice ka m kc) ∧ w9.cell? ⟨wr.heap.size, 3, none⟩ = some (.slice va z vc)) := Lib.hid (by have g := g8; rw [← hl2.out.1] at g; have := box_four (block_besideP (HO6.out _ (by repeat (first | with_reducible exact BB.out | with_reducible exact Below.refl _ _ | with_reducible refine Below.drew ?_ | with_reducible refine below_al ?_ _))) (RR.out.2.kept (C := w6.heap.size) (by repeat (first | with_reducible exact BB.out | with_reducible exact Below.refl _ _ | with_reducible refine Below.drew ?_ | with_reducible refine below_al ?_ _)) (Nat.le_refl _)) (by decide) g); exact ⟨this.1, this.2.2.2⟩); have CB : Hid (Below w.heap.size w w9) := Lib.hid ((W6.out.trans ((by repeat (first | with_reducible exact BB.out | with_reducible exact Below.refl _ _ | with_reducible refine Below.drew ?_ | with_reducible refine below_al ?_ _) : Below w6.heap.size w6 _).mono WS6.out)).trans b8); clear r8 b8 g8))
        all_goals
          go_wp2_with fail
          go_roundw
          case rel => exact ⟨k + 1, j + 1, A8, c8, l' ++ [⟨⟨A6, c6, kl⟩, ⟨A7, c7, vl⟩⟩], by omega, by go_num, rfl, Lib.hid ⟨by rw [List.length_append, hl2.out.1]; rfl, by have := hl2.out; omega⟩, Lib.hid (by rw [rds_append, hr.out, HST.out, HBB.out]; rfl), Lib.hid (CM.out.snoc K6.out K7.out), Lib.hid R8.out, CB⟩
          case measure => simp [intOf]; omega
      · go_wp2_with (go_at_call 46; refine HLA.out.mono ?_; rintro e w6 ⟨rfl, q6, hw6⟩; have B6 : Hid (Below wx.heap.size wx w6) := Lib.hid (by rw [hw6]; exact below_drewN (Below.refl _ _) q6); obtain ⟨c0, c1, c2', c3⟩ := box_four (HOB.out w6 B6.out); clear hw6)
        have R6 : Hid (Below wr.heap.size wr w6) := Lib.hid (below_then BR.out B6.out)
        go_roundw
        case rel => exact ⟨k + 1, j, A2, c2, l', by omega, by go_num, rfl, Lib.hid ⟨hl2.out.1, by have := hl2.out; omega⟩, Lib.hid (by rw [HST.out, HBB.out, hr.out]; simp), Lib.hid (hm.out.kept R6.out (Nat.le_refl _)), Lib.hid (r2.out.kept R6.out (Nat.le_refl _)), Lib.hid (b2.out.trans (R6.out.mono WS.out))⟩
        case measure => simp [intOf]; omega
    · obtain rfl : k = n := by omega
      have hr' := hr.out
      rw [List.take_of_length_le (by rw [ers_len]; have := HN.out; omega)] at hr'
      have HR := Lib.hid hr'
      clear hr'
      go_wp2_with fail
      go_ret2
      exact ⟨l', _, _, _, rfl, hl2.out.1, HR.out, hm.out, r2.out, b2.out⟩
end Go.Proofs.Ytkodhlaojlgejaa
namespace Go.Proofs.Ytkodhlaojlgejaa
open Go.RowKit
/-- The one ahead has the key, and is seen already. -/
def skipB (p : Option Er) (e : Er) (s : Int) : Bool := match p with | none => false | some q => decide (q.1 = e.1) && decide (q.2.1 ≤ s)
theorem last_skip (p : Option Er) (e : Er) (s : Int) : lastB p e s = (decide (e.2.1 ≤ s) && !skipB p e s) := by
  unfold lastB skipB
  cases p with
  | none => rfl
  | some q =>
    simp only
    congr 1
    by_cases h1 : q.1 = e.1 <;> by_cases h2 : q.2.1 ≤ s
    · simp [h1, h2, show ¬ s < q.2.1 by omega]
    · simp [h1, h2, show s < q.2.1 by omega]
    · simp [h1]
    · simp [h1]
/-- Pairs of some entries, or the refusal. -/
def PPick (ok : Bool) (P : List Pr) (l : List En) (w : World) (e : Ending) (w' : World) : Prop := ∃ (l' : List Bp) (A' : Option Addr) (n' c' : Nat), e = .returned (.tuple #[.slice A' n' c', .int .i64 (if ok = true then 0 else 30)]) ∧ l'.length = n' ∧ rds l' = (if ok = true then P else []) ∧ (∀ p ∈ l', ∃ q ∈ l, p = ⟨q.k, q.v⟩) ∧ Prow w' w.heap.size A' c' l' ∧ Below w.heap.size w w'
set_option maxRecDepth 100000 in
set_option maxHeartbeats 8000000 in
theorem refVisible_any (A : Option Addr) (l : List En) (n c : Nat) (s : Int) (w : World) (hn : l.length = n) (h : Lies w A (evals l)) (hi : EIns w l) (hl : n * 64 ≤ 140737488351232) (hk : ∀ q ∈ l, q.k.l.length ≤ 281474976710656) :
    Calls Try.prog 27 #[.slice A n c, .int .i64 s] w (PPick (decide (OrdL (ers l))) (visE s (ers l)) l w) := by
  have HMS := Lib.hid (refOrdered_any A l n c w hn h hi (by omega) hk)
  obtain ⟨od, hod⟩ : ∃ od, decide (OrdL (ers l)) = od := ⟨_, rfl⟩
  rw [hod] at HMS ⊢
  have HP := Lib.hid (fun (w' : World) (hb : Below w.heap.size w w') => h.kept hb)
  have HI := Lib.hid (fun (w' : World) (hb : Below w.heap.size w w') => hi.kept hb)
  have HN := Lib.hid hn
  have HL9 := Lib.hid hl
  clear h hi hn hk hod
  cases od
  · go_enter Try.func27, Try.ntmps27
    go_wp2_with (go_at_call 31; refine HMS.out.mono ?_; rintro e w2 ⟨rfl, b2⟩; have B2 := Lib.hid b2; clear b2)
    go_ret2
    exact ⟨[], none, 0, 0, rfl, rfl, rfl, (fun _ h => by cases h), Prow.nil _ _, B2.out⟩
  go_enter Try.func27, Try.ntmps27
  go_wp2_with (go_at_call 31; refine HMS.out.mono ?_; rintro e w2 ⟨rfl, b2⟩; have B2 := Lib.hid b2; clear b2)
  go_loopw [6, 13] (fun t6 t13 wr => ∃ (k j : Nat) (A2 : Option Addr) (c2 : Nat) (l' : List Bp), k ≤ n ∧ t13 = .int .i64 k ∧ t6 = .slice A2 j c2 ∧ Hid (l'.length = j ∧ j ≤ k) ∧ Hid (rds l' = (pickF (seenK s) none ((ers l).take k)).map keyval) ∧ Hid (∀ p ∈ l', ∃ q ∈ l, p = ⟨q.k, q.v⟩) ∧ Hid (Prow wr w.heap.size A2 c2 l') ∧ Hid (Below w.heap.size w wr)) (fun _ t13 _ => n - (intOf t13).toNat)
  case atStart => exact ⟨0, 0, none, 0, [], by omega, rfl, rfl, Lib.hid ⟨rfl, Nat.le_refl _⟩, Lib.hid rfl, Lib.hid (fun _ h => by cases h), Lib.hid (Prow.nil _ _), B2⟩
  case round =>
    obtain ⟨k, j, A2, c2, l', hk, rfl, rfl, hl2, hr, hm, r2, b2⟩ := hrel
    by_cases hlt : k < n
    · have hq := List.getElem?_eq_getElem (l := l) (i := k) (by have := HN.out; omega)
      generalize l[k]'(by have := HN.out; omega) = x at hq
      obtain ⟨ad, rfl, a0, a1, a2, a3⟩ := lies_entry (HP.out _ b2.out) hq
      have hmem := List.mem_of_getElem? hq
      have HX := Lib.hid (fun (w' : World) (hb : Below w.heap.size w w') => HI.out w' hb x hmem)
      have HQ := Lib.hid hq
      have HMEM := Lib.hid hmem
      have HST : Hid (∀ s, (pickF (seenK s) none ((ers l).take (k + 1))).map keyval = (pickF (seenK s) none ((ers l).take k)).map keyval ++ (if (lastB (aheadE (ers l) k) x.rd s && !x.d) = true then [keyval x.rd] else [])) := Lib.hid (fun s => vis_step (ers_get hq))
      obtain ⟨m, hm2⟩ : ∃ m, x.k.l.length = m := ⟨_, rfl⟩
      obtain ⟨z, hz2⟩ : ∃ z, x.v.l.length = z := ⟨_, rfl⟩
      rw [hm2] at a0
      rw [hz2] at a3
      have HM2 := Lib.hid (And.intro hm2 hz2)
      have k0 : (k : Int) < n := by omega
      have WS : Hid (w.heap.size ≤ wr.heap.size) := Lib.hid b2.out.size
      have HA : Hid (∀ W, Below w.heap.size w W → W.cell? (ad.add (k * 4)) = some (.slice x.k.a m x.k.c) ∧ W.cell? ⟨(ad.add (k * 4)).block, (ad.add (k * 4)).off + 1, none⟩ = some (.int .i64 x.s) ∧ W.cell? ⟨(ad.add (k * 4)).block, (ad.add (k * 4)).off + 2, none⟩ = some (.bool x.d) ∧ W.cell? ⟨(ad.add (k * 4)).block, (ad.add (k * 4)).off + 3, none⟩ = some (.slice x.v.a z x.v.c)) := Lib.hid (fun W hb => by
        have := lies_entry_at (HP.out W hb) HQ.out
        unfold AtE at this
        rwa [HM2.out.1, HM2.out.2] at this)
      clear hq hm2 hz2 hmem
      obtain ⟨sk, hsk⟩ : ∃ sk, skipB (aheadE (ers l) k) x.rd s = sk := ⟨_, rfl⟩
      have HSK := Lib.hid hsk
      clear hsk
      go_upto_region 7 with fail
      go_cut [43] from 16 to 43 (fun t43 wx => t43 = .bool sk ∧ ∃ q, wx = wr.drewN q)
      case first =>
        obtain h0 | ⟨i, hik⟩ : k = 0 ∨ ∃ i, k = i + 1 := by
          cases k with
          | zero => exact .inl rfl
          | succ i => exact .inr ⟨i, rfl⟩
        · have d0 : decide ((0 : Int) < k) = false := decide_eq_false (by omega)
          have d0n : decide (0 < k) = false := decide_eq_false (by omega)
          have d0m : ¬ (0 : Int) < k := by omega
          have d0k : ¬ 0 < k := by omega
          have HS : Hid (sk = false) := Lib.hid (by rw [← HSK.out, aheadE, if_pos h0]; rfl)
          clear h0
          go_quiet (fail)
          go_wp2_with fail
          go_meet
          exact ⟨by rw [HS.out], _, rfl⟩
        have d0 : (0 : Int) < k := by omega
        have d0n : 0 < k := by omega
        have hp := List.getElem?_eq_getElem (l := l) (i := i) (by have := HN.out; omega)
        generalize l[i]'(by have := HN.out; omega) = p at hp
        have e1 : aheadE (ers l) k = some p.rd := by rw [aheadE, if_neg (by omega), show k - 1 = i by omega]; exact ers_get hp
        obtain ⟨b0, b1, -, -⟩ := lies_entry_at (HP.out _ b2.out) hp
        have IP := HI.out wr b2.out p (List.mem_of_getElem? hp)
        have IX := HX.out wr b2.out
        have w1 : wrap64 ((k : Int) - 1) = (i : Int) := by unfold wrap64; omega
        have w2 : IntKind.i64.wrap ((k : Int) - 1) = (i : Int) := by rw [IntKind.wrap_i64]; omega
        have j0 : (i : Int) < n := by omega
        obtain ⟨pn, hpn⟩ : ∃ m, p.k.l.length = m := ⟨_, rfl⟩
        rw [hpn] at b0
        have C0 := conv_drew IP.1.bys pn p.k.c hpn
        have C1 := conv_drew IX.1.bys m x.k.c HM2.out.1
        have hE := toList_dec IP.1.byt IX.1.byt
        have HS : Hid (sk = (decide (p.k.l = x.k.l) && decide (p.s ≤ s))) := Lib.hid (by rw [← HSK.out, e1]; rfl)
        clear hp e1 IP IX hpn hik
        by_cases he : p.k.l = x.k.l
        · rw [decide_eq_true he] at hE HS
          by_cases hs : p.s ≤ s
          · have d1 : decide (p.s ≤ s) = true := decide_eq_true hs
            rw [d1] at HS
            clear he hs
            go_quiet (fail)
            go_wp2_with fail
            go_meet
            exact ⟨by rw [HS.out]; rfl, _, rfl⟩
          · have d1 : decide (p.s ≤ s) = false := decide_eq_false hs
            rw [d1] at HS
            clear he hs
            go_quiet (fail)
            go_wp2_with fail
            go_meet
            exact ⟨by rw [HS.out]; rfl, _, rfl⟩
        · rw [decide_eq_false he] at hE HS
          clear he
          go_quiet (fail)
          go_wp2_with fail
          go_meet
          exact ⟨by rw [HS.out]; rfl, _, rfl⟩
      case rest =>
        obtain ⟨rfl, qc, hwc⟩ := hcut
        have BC : Hid (Below wr.heap.size wr wc) := Lib.hid (by rw [hwc]; exact below_drewN (Below.refl _ _) qc)
        have WC : Hid (Below w.heap.size w wc) := Lib.hid (b2.out.trans (BC.out.mono WS.out))
        clear hwc a0 a1 a2 a3
        obtain ⟨a0, a1, a2, a3⟩ := HA.out wc WC.out
        have HLS : Hid (lastB (aheadE (ers l) k) x.rd s = (decide (x.s ≤ s) && !sk)) := Lib.hid (by rw [last_skip, HSK.out]; rfl)
        cases sk
        · by_cases hs : x.s ≤ s
          · have d1 : decide (x.s ≤ s) = true := decide_eq_true hs
            rw [d1] at HLS
            clear hs
            obtain ⟨d, hd⟩ : ∃ d, x.d = d := ⟨_, rfl⟩
            rw [hd] at a2
            have HD := Lib.hid hd
            clear hd
            cases d
            · have BB := Lib.hid (Below.refl wc.heap.size wc)
              have HC6 : Hid (∀ W, Below w.heap.size w W → W.cell? (ad.add (k * 4)) = some (.slice x.k.a m x.k.c) ∧ W.cell? ⟨(ad.add (k * 4)).block, (ad.add (k * 4)).off + 3, none⟩ = some (.slice x.v.a z x.v.c)) := Lib.hid (fun W hb => ⟨(HA.out W hb).1, (HA.out W hb).2.2.2⟩)
              go_upto_region 9 with fail
              clear a0 a1 a2 a3
              have RR : Hid (Prow wc w.heap.size A2 c2 l') := Lib.hid (r2.out.kept BC.out (Nat.le_refl _))
              have WS6 : Hid (w.heap.size ≤ wc.heap.size) := Lib.hid WC.out.size
              go_region_held3 (fun W => W.cell? (ad.add (k * 4)) = some (.slice x.k.a m x.k.c) ∧ W.cell? ⟨(ad.add (k * 4)).block, (ad.add (k * 4)).off + 3, none⟩ = some (.slice x.v.a z x.v.c)) (first | exact HC6.out _ CB.out | (refine HC6.out _ (WC.out.trans (Below.mono ?_ WS6.out)); (repeat (first | with_reducible exact BB.out | with_reducible exact Below.refl _ _ | with_reducible refine Below.drew ?_ | with_reducible refine below_al ?_ _)); done) | go_keep) (first
                | (refine step_append_prow _ (by rfl) (.tmp 59) (.tmp 71) (by rfl) w.heap.size A2 c2 l' [⟨x.k, x.v⟩] _ j 1 1 rfl rfl hl2.out.1 rfl ?_ ?_ ?_ ?_ ?_; (refine RR.out.kept ?_ (Nat.le_refl _); (repeat (first | with_reducible exact BB.out | with_reducible exact Below.refl _ _ | with_reducible refine Below.drew ?_ | with_reducible refine below_al ?_ _))); (refine lit_pair _ x.k.a x.v.a x.k.c x.v.c x.k.l x.v.l m z HM2.out.1 HM2.out.2); (have := WS6.out; have := BB.out.size; first | omega | (simp; omega) | (simp only [drew_size, World.size_alloc]; omega)); (have := hl2.out; have := HL9.out; simp only [List.length_singleton]; omega); intro A8 c8 w9 r8 b8 g8; have R8 := Lib.hid r8; have CB : Hid (Below w.heap.size w w9) := Lib.hid ((WC.out.trans ((by repeat (first | with_reducible exact BB.out | with_reducible exact Below.refl _ _ | with_reducible refine Below.drew ?_ | with_reducible refine below_al ?_ _) : Below wc.heap.size wc _).mono WS6.out)).trans b8); clear r8 b8 g8))
              all_goals
                go_wp2_with fail
                go_roundw
                case rel => exact ⟨k + 1, j + 1, A8, c8, l' ++ [⟨x.k, x.v⟩], by omega, by go_num, rfl, Lib.hid ⟨by rw [List.length_append, hl2.out.1]; rfl, by have := hl2.out; omega⟩, Lib.hid (by rw [rds_append, hr.out, HST.out, HLS.out, HD.out]; rfl), Lib.hid (fun p hp => (List.mem_append.1 hp).elim (hm.out p) (fun hp => ⟨x, HMEM.out, List.mem_singleton.1 hp⟩)), Lib.hid R8.out, CB⟩
                case measure => simp [intOf]; omega
            · go_wp2_with fail
              go_roundw
              case rel => exact ⟨k + 1, j, A2, c2, l', by omega, by go_num, rfl, Lib.hid ⟨hl2.out.1, by have := hl2.out; omega⟩, Lib.hid (by rw [HST.out, HD.out, hr.out]; simp), hm, Lib.hid (r2.out.kept BC.out (Nat.le_refl _)), WC⟩
              case measure => simp [intOf]; omega
          · have d1 : decide (x.s ≤ s) = false := decide_eq_false hs
            rw [d1] at HLS
            clear hs
            go_wp2_with fail
            go_roundw
            case rel => exact ⟨k + 1, j, A2, c2, l', by omega, by go_num, rfl, Lib.hid ⟨hl2.out.1, by have := hl2.out; omega⟩, Lib.hid (by rw [HST.out, HLS.out, hr.out]; simp), hm, Lib.hid (r2.out.kept BC.out (Nat.le_refl _)), WC⟩
            case measure => simp [intOf]; omega
        · go_wp2_with fail
          go_roundw
          case rel => exact ⟨k + 1, j, A2, c2, l', by omega, by go_num, rfl, Lib.hid ⟨hl2.out.1, by have := hl2.out; omega⟩, Lib.hid (by rw [HST.out, HLS.out, hr.out]; simp), hm, Lib.hid (r2.out.kept BC.out (Nat.le_refl _)), WC⟩
          case measure => simp [intOf]; omega
    · obtain rfl : k = n := by omega
      have hr' := hr.out
      rw [List.take_of_length_le (by rw [ers_len]; have := HN.out; omega)] at hr'
      have HR := Lib.hid hr'
      clear hr'
      go_wp2_with fail
      go_ret2
      exact ⟨l', _, _, _, rfl, hl2.out.1, HR.out, hm.out, r2.out, b2.out⟩
end Go.Proofs.Ytkodhlaojlgejaa
