/-
  Bytes, texts, plans, files and calls that come in, as the walks want them.
-/
import Derived.Test.YtjacjafpeajhaaaRows
import Derived.Test.YtjacjafpeajhaaaLawA
import Derived.Deep.Slices
import Derived.OpenShut
import Derived.ChangeOld
import Derived.SizedLaws
namespace Go.Proofs.Ytjacjafpeajhaaa
open Go.ChangeShapes Go.WideShapes Go.ChangeAt Go.RowKit

theorem in_nil (w : World) : In w none [] 0 0 := ⟨rfl, Nat.le_refl _, by decide, .inl rfl, Byt.nil⟩
theorem in_row (w : World) (x : Addr) (l c : Nat) (zs : List Int) (hl : l ≤ c) (hm : c ≤ maxLen) (hz : zs.length = c) (hcell : ∀ i, i < zs.length → w.cell? (x.add i) = some (.int .u8 (zs.getD i 0))) (hwz : ∀ n ∈ zs, (Lit.int .u8 n).wf = true) : In w (some x) (zs.take l) l c := by
  refine ⟨by simp; omega, hl, by unfold maxLen at hm; omega, .inr ⟨x, rfl, fun j y hy => ?_⟩, fun y hy => ?_⟩
  · rw [List.getElem?_take] at hy
    split at hy
    · have hj := (List.getElem?_eq_some_iff.1 hy).1
      rw [hcell j hj, List.getD_eq_getElem?_getD, hy]
      rfl
    · cases hy
  · have := hwz y (List.mem_of_mem_take hy)
    simp [Lit.wf, IntKind.min, IntKind.max, IntKind.signed, IntKind.bits] at this
    omega

theorem bulk_one {H : Type} (d : DataW H) : 1 ≤ Rows.uptoBulk d := by
  cases d with
  | lit l => cases l <;> simp [Rows.uptoBulk]
  | nil => simp [Rows.uptoBulk]
  | ptr d => simp [Rows.uptoBulk]
  | slice elems spare => simp [Rows.uptoBulk]
  | agg parts => simp [Rows.uptoBulk]
  | iface t d => simp [Rows.uptoBulk]
  | map entries => simp [Rows.uptoBulk]
  | held h => simp [Rows.uptoBulk]
theorem bulk_in {H : Type} {d : DataW H} {l : List (DataW H)} (h : d ∈ l) : Rows.uptoBulk d ≤ Rows.uptoBulkAll l := by
  induction l with
  | nil => cases h
  | cons x r ih =>
    simp only [Rows.uptoBulkAll]
    rcases List.mem_cons.1 h with e | e
    · subst e
      omega
    · have := ih e
      omega
theorem bulk_length {H : Type} (l : List (DataW H)) : l.length ≤ Rows.uptoBulkAll l := by
  induction l with
  | nil => simp [Rows.uptoBulkAll]
  | cons x r ih =>
    have := bulk_one x
    simp only [Rows.uptoBulkAll, List.length_cons]
    omega
theorem list_of {α : Type} {P : Nat → α → Prop} : ∀ n : Nat, (∀ i, i < n → ∃ q, P i q) → ∃ l : List α, l.length = n ∧ ∀ i q, l[i]? = some q → P i q
  | 0, _ => ⟨[], rfl, fun i q h => by simp at h⟩
  | n + 1, h => by
    obtain ⟨l, hl, hp⟩ := list_of n (fun i hi => h i (by omega))
    obtain ⟨q, hq⟩ := h n (by omega)
    refine ⟨l ++ [q], by simp [hl], fun i p hi => ?_⟩
    rcases Nat.lt_or_ge i n with k | k
    · exact hp i p (by rwa [List.getElem?_append_left (by omega)] at hi)
    · have hlt := (List.getElem?_eq_some_iff.1 hi).1
      simp only [List.length_append, List.length_singleton] at hlt
      have e : i = n := by omega
      subst e
      rw [List.getElem?_append_right (by omega), hl] at hi
      simp at hi
      subst hi
      exact hq
theorem weights_all {H : Type} {P : Program} {e : TypeId} {l : List (DataW H)} {d : DataW H} (h : d ∈ l) : ∀ n ∈ d.weights P e, n ∈ DataW.weightsAll P e l := by
  induction l with
  | nil => cases h
  | cons x r ih =>
    intro n hn
    simp only [DataW.weightsAll, List.mem_append]
    rcases List.mem_cons.1 h with k | k
    · subst k
      exact .inl hn
    · exact .inr (ih k n hn)


theorem cells48 : Try.prog.cellsOf 48 = 3 := by kernel_rfl
theorem cells9 : Try.prog.cellsOf 9 = 1 := by kernel_rfl
theorem cells38 : Try.prog.cellsOf 38 = 1 := by kernel_rfl
theorem cells23 : Try.prog.cellsOf 23 = 1 := by kernel_rfl
theorem cells3 : Try.prog.cellsOf 3 = 1 := by kernel_rfl
theorem cells25 : Try.prog.cellsOf 25 = 3 := by kernel_rfl
theorem cells40 : Try.prog.cellsOf 40 = 7 := by kernel_rfl
theorem bytes8 : Try.prog.bytesOf 5 = 1 := by kernel_rfl
theorem bytesInt : Try.prog.bytesOf 3 = 8 := by kernel_rfl
theorem bytesFile : Try.prog.bytesOf 48 = 48 := by kernel_rfl

section
variable {H : Type} {enc : TypeId × Value → H} {W : World} {fuel : Nat} {cs : List Value} {x : DataW H × List MemPlace}

/-- Bytes, read. -/
theorem open_byts (h : DataW.trod enc Try.prog W 0 (fun _ => true) true fuel 38 cs = some x) :
    ∃ s : Sl, cs = [s.val] ∧ In W s.a s.l s.l.length s.c ∧ s.l.length + 1 ≤ Rows.uptoBulk x.1 ∧ ((∀ n ∈ x.1.weights Try.prog 38, n ≤ reachBytes) → s.l.length ≤ 140737488351232) := by
  rcases open_ints Try.underlying38 Try.underlying5 (by kernel_rfl) h with ⟨hc0, hx⟩ | ⟨y, l, d, zs, hc0, _, hl', hm', hz, hxx, hcell, hwz⟩
  · exact ⟨⟨none, 0, []⟩, hc0, in_nil W, bulk_one _, fun _ => by simp⟩
  · simp only [if_true] at hz
    have hin := in_row W y l d zs hl' hm' hz hcell hwz
    refine ⟨⟨some y, d, zs.take l⟩, ?_, hin.of_n, ?_, fun hw => ?_⟩
    · rw [hc0]
      show _ = [Value.slice (some y) (zs.take l).length d]
      rw [hin.len]
    · rw [hxx]
      have h2 := bulk_length (H := H) (lits .u8 (zs.take l))
      simp only [lits, List.length_map] at h2
      simp only [Rows.uptoBulk, lits]
      omega
    · have := hw (((lits (H := H) .u8 (zs.take l)).length + (lits (H := H) .u8 (zs.drop l)).length) * Try.prog.bytesOf 5) (by
        rw [hxx]
        simp only [DataW.weights, Try.underlying38]
        exact List.mem_cons_self)
      rw [bytes8] at this
      simp only [lits, List.length_map, reachBytes] at this
      show (zs.take l).length ≤ _
      omega
/-- Numbers, read. -/
theorem open_keep (h : DataW.trod enc Try.prog W 0 (fun _ => true) true fuel 23 cs = some x) :
    ∃ (A : Option Addr) (n c : Nat) (keep : List Int), cs = [.slice A n c] ∧ keep.length = n ∧ Ints W A keep ∧ (∀ z ∈ keep, -9223372036854775808 ≤ z ∧ z ≤ 9223372036854775807) ∧ n + 1 ≤ Rows.uptoBulk x.1 ∧ ((∀ n ∈ x.1.weights Try.prog 23, n ≤ reachBytes) → n * 8 ≤ 140737488351232) := by
  rcases open_ints Try.underlying23 Try.underlying3 (by kernel_rfl) h with ⟨hc0, hx⟩ | ⟨y, l, d, zs, hc0, _, hl', hm', hz, hxx, hcell, hwz⟩
  · exact ⟨none, 0, 0, [], hc0, rfl, .inl rfl, fun z hz => (List.not_mem_nil hz).elim, bulk_one _, fun _ => by omega⟩
  · simp only [if_true] at hz
    refine ⟨some y, l, d, zs.take l, hc0, by simp; omega, .inr ⟨y, rfl, fun j u hu => ?_⟩, fun z hz2 => ?_, ?_, fun hw => ?_⟩
    · rw [List.getElem?_map, Option.map_eq_some_iff] at hu
      obtain ⟨v, hv, rfl⟩ := hu
      rw [List.getElem?_take] at hv
      split at hv
      · have hj := (List.getElem?_eq_some_iff.1 hv).1
        rw [hcell j hj, List.getD_eq_getElem?_getD, hv]
        rfl
      · cases hv
    · have := hwz z (List.mem_of_mem_take hz2)
      simpa [Lit.wf, IntKind.min, IntKind.max, IntKind.signed, IntKind.bits] using this
    · rw [hxx]
      have h2 := bulk_length (H := H) (lits .i64 (zs.take l))
      simp only [lits, List.length_map, List.length_take] at h2
      simp only [Rows.uptoBulk, lits]
      omega
    · have := hw (((lits (H := H) .i64 (zs.take l)).length + (lits (H := H) .i64 (zs.drop l)).length) * Try.prog.bytesOf 3) (by
        rw [hxx]
        simp only [DataW.weights, Try.underlying23]
        exact List.mem_cons_self)
      rw [bytesInt] at this
      simp only [lits, List.length_map, reachBytes, List.length_take, List.length_drop] at this
      omega
/-- A text, read. -/
theorem open_text (h : DataW.trod enc Try.prog W 0 (fun _ => true) true fuel 9 cs = some x) :
    ∃ s : ByteArray, cs = [.string s] ∧ s.size + 1 ≤ Rows.uptoBulk x.1 ∧ ((∀ n ∈ x.1.weights Try.prog 9, n ≤ reachBytes) → s.size ≤ 140737488351232) := by
  obtain ⟨r, e6, e7, _⟩ := DataW.trod_string Try.underlying9 h
  have e : r.data.toList.length = r.size := by cases r; rfl
  refine ⟨r, e6, ?_, fun hw => ?_⟩
  · rw [e7]
    simp only [Rows.uptoBulk]
    omega
  · have := hw r.data.toList.length (by rw [e7]; simp [DataW.weights])
    rw [e] at this
    exact this
theorem open_num (h : DataW.trod enc Try.prog W 0 (fun _ => true) true fuel 3 cs = some x) : ∃ k : Int, cs = [.int .i64 k] ∧ -9223372036854775808 ≤ k ∧ k ≤ 9223372036854775807 := by
  obtain ⟨k, e3, e4, e5⟩ := DataW.trod_int Try.underlying3 h
  refine ⟨k, e3, ?_⟩
  simpa [Lit.wf, IntKind.min, IntKind.max, IntKind.signed, IntKind.bits] using e5
set_option maxRecDepth 100000 in
/-- A file, read. -/
theorem open_file (h : DataW.trod enc Try.prog W 0 (fun _ => true) true fuel 48 cs = some x) :
    ∃ q : Fl, cs = q.cells ∧ In W q.d.a q.d.l q.d.l.length q.d.c ∧ (-9223372036854775808 ≤ q.y ∧ q.y ≤ 9223372036854775807) ∧ q.d.l.length + q.s.size + 1 ≤ Rows.uptoBulk x.1 ∧ ((∀ n ∈ x.1.weights Try.prog 48, n ≤ reachBytes) → q.d.l.length ≤ 140737488351232 ∧ q.s.size ≤ 140737488351232) := by
  obtain ⟨xs, n, -, rfl, hlen, hxl, hf⟩ := DataW.trod_struct Try.underlying48 h
  rw [cells48] at hlen
  have h0 : DataW.trod enc Try.prog W 0 (fun _ => true) true n 9 ((cs.drop 0).take (Try.prog.cellsOf 9)) = xs[0]? := hf 0 _ rfl
  have h1 : DataW.trod enc Try.prog W 0 (fun _ => true) true n 38 ((cs.drop 1).take (Try.prog.cellsOf 38)) = xs[1]? := hf 1 _ rfl
  have h2 : DataW.trod enc Try.prog W 0 (fun _ => true) true n 3 ((cs.drop 2).take (Try.prog.cellsOf 3)) = xs[2]? := hf 2 _ rfl
  rw [cells9] at h0
  rw [cells38] at h1
  rw [cells3] at h2
  match cs, hlen, xs, hxl with
  | [u, v, t], _, [y0, y1, y2], _ =>
    obtain ⟨s, e1, e2, e3⟩ := open_text (h0.trans rfl)
    obtain ⟨d, f1, f2, f3, f4⟩ := open_byts (h1.trans rfl)
    obtain ⟨k, g1, g2⟩ := open_num (h2.trans rfl)
    have a1 : u = .string s := by simpa using e1
    have a2 : v = d.val := by simpa using f1
    have a3 : t = .int .i64 k := by simpa using g1
    subst a1
    subst a2
    subst a3
    refine ⟨⟨s, d, k⟩, rfl, f2, g2, ?_, fun hw => ⟨f4 (fun m hm => hw m ?_), e3 (fun m hm => hw m ?_)⟩⟩
    · simp only [Rows.uptoBulk, Rows.uptoBulkAll, List.map_cons, List.map_nil] at e2 f3 ⊢
      omega
    · simp only [DataW.weights, Try.underlying48]
      exact DataW.weights_mem_each (j := 1) (t := 38) rfl rfl m hm
    · simp only [DataW.weights, Try.underlying48]
      exact DataW.weights_mem_each (j := 0) (t := 9) rfl rfl m hm
/-- A plan that comes in. -/
structure PlIn (w : World) (ops room : Int) (A : Option Addr) (keep : List Int) (n c : Nat) : Prop where
  len : keep.length = n
  ints : Ints w A keep
  ki : ∀ z ∈ keep, -9223372036854775808 ≤ z ∧ z ≤ 9223372036854775807
  ops : -9223372036854775808 ≤ ops ∧ ops ≤ 9223372036854775807
  room : -9223372036854775808 ≤ room ∧ room ≤ 9223372036854775807
  few : n * 8 ≤ 140737488351232
set_option maxRecDepth 100000 in
theorem open_plan_cs (h : DataW.trod enc Try.prog W 0 (fun _ => true) true fuel 25 cs = some x) :
    ∃ ops room A keep n c, cs = [.int .i64 ops, .int .i64 room, .slice A n c] ∧ n + 1 ≤ Rows.uptoBulk x.1 ∧ ((∀ n ∈ x.1.weights Try.prog 25, n ≤ reachBytes) ∨ n * 8 ≤ 140737488351232 → PlIn W ops room A keep n c) := by
  obtain ⟨xs, n, -, rfl, hlen, hxl, hf⟩ := DataW.trod_struct Try.underlying25 h
  rw [cells25] at hlen
  have h0 : DataW.trod enc Try.prog W 0 (fun _ => true) true n 3 ((cs.drop 0).take (Try.prog.cellsOf 3)) = xs[0]? := hf 0 _ rfl
  have h1 : DataW.trod enc Try.prog W 0 (fun _ => true) true n 3 ((cs.drop 1).take (Try.prog.cellsOf 3)) = xs[1]? := hf 1 _ rfl
  have h2 : DataW.trod enc Try.prog W 0 (fun _ => true) true n 23 ((cs.drop 2).take (Try.prog.cellsOf 23)) = xs[2]? := hf 2 _ rfl
  rw [cells3] at h0 h1
  rw [cells23] at h2
  match cs, hlen, xs, hxl with
  | [u, v, t], _, [y0, y1, y2], _ =>
    obtain ⟨a, e1, e2⟩ := open_num (h0.trans rfl)
    obtain ⟨b, f1, f2⟩ := open_num (h1.trans rfl)
    obtain ⟨A, kn, c, keep, g1, g2, g3, g4, g5, g6⟩ := open_keep (h2.trans rfl)
    have a1 : u = .int .i64 a := by simpa using e1
    have a2 : v = .int .i64 b := by simpa using f1
    have a3 : t = .slice A kn c := by simpa using g1
    subst a1
    subst a2
    subst a3
    refine ⟨a, b, A, keep, kn, c, rfl, ?_, fun hw => ⟨g2, g3, g4, e2, f2, hw.elim (fun hw => g6 (fun m hm => hw m ?_)) id⟩⟩
    · simp only [Rows.uptoBulk, Rows.uptoBulkAll, List.map_cons, List.map_nil] at g5 ⊢
      omega
    · simp only [DataW.weights, Try.underlying25]
      exact DataW.weights_mem_each (j := 2) (t := 23) rfl rfl m hm
end
/-- Files that come in. -/
structure FsIn (w : World) (A : Option Addr) (l : List Fl) (n c : Nat) : Prop where
  len : l.length = n
  lies : Lies w A (fvals l)
  ins : Ins w l
  few : n * 48 ≤ 140737488351232
  long : ∀ q ∈ l, q.d.l.length ≤ 140737488351232
  names : ∀ q ∈ l, q.s.size ≤ 140737488351232
/-- .. of a bulk that is bounded. -/
structure FsUp (w : World) (A : Option Addr) (l : List Fl) (n c : Nat) : Prop where
  fsin : FsIn w A l n c
  sum : sumM (l.map Fl.rd) + n ≤ 1048576

/-- A call that comes in. -/
structure Ac where
  kind : Int
  s : ByteArray
  t : ByteArray
  d : Sl
  ops : Int
  room : Int
  K : Option Addr
  keep : List Int
  kc : Nat
def Ac.cells (a : Ac) : List Value := [.int .i64 a.kind, .string a.s, .string a.t, a.d.val, .int .i64 a.ops, .int .i64 a.room, .slice a.K a.keep.length a.kc]
def avals (l : List Ac) : List Value := l.flatMap Ac.cells
structure AcIn (w : World) (a : Ac) : Prop where
  kind : -9223372036854775808 ≤ a.kind ∧ a.kind ≤ 9223372036854775807
  ss : a.s.size ≤ 1048576
  ts : a.t.size ≤ 1048576
  data : In w a.d.a a.d.l a.d.l.length a.d.c
  plan : PlIn w a.ops a.room a.K a.keep a.keep.length a.kc
def sumA (l : List Ac) : Nat := (l.map (fun a => a.d.l.length)).sum
structure AcsUp (w : World) (A : Option Addr) (l : List Ac) (n c : Nat) : Prop where
  len : l.length = n
  lies : Lies w A (avals l)
  each : ∀ a ∈ l, AcIn w a
  sum : sumA l + n ≤ 1048576

section
variable {H : Type} {enc : TypeId × Value → H} {W : World} {fuel : Nat} {cs : List Value} {x : DataW H × List MemPlace}
set_option maxRecDepth 100000 in
theorem open_act (h : DataW.trod enc Try.prog W 0 (fun _ => true) true fuel 40 cs = some x) (hb : Rows.uptoBulk x.1 ≤ 1048576) : ∃ a : Ac, cs = a.cells ∧ AcIn W a ∧ a.d.l.length + 1 ≤ Rows.uptoBulk x.1 := by
  obtain ⟨xs, n, -, rfl, hlen, hxl, hf⟩ := DataW.trod_struct Try.underlying40 h
  rw [cells40] at hlen
  have h0 : DataW.trod enc Try.prog W 0 (fun _ => true) true n 3 ((cs.drop 0).take (Try.prog.cellsOf 3)) = xs[0]? := hf 0 _ rfl
  have h1 : DataW.trod enc Try.prog W 0 (fun _ => true) true n 9 ((cs.drop 1).take (Try.prog.cellsOf 9)) = xs[1]? := hf 1 _ rfl
  have h2 : DataW.trod enc Try.prog W 0 (fun _ => true) true n 9 ((cs.drop 2).take (Try.prog.cellsOf 9)) = xs[2]? := hf 2 _ rfl
  have h3 : DataW.trod enc Try.prog W 0 (fun _ => true) true n 38 ((cs.drop 3).take (Try.prog.cellsOf 38)) = xs[3]? := hf 3 _ rfl
  have h4 : DataW.trod enc Try.prog W 0 (fun _ => true) true n 25 ((cs.drop 4).take (Try.prog.cellsOf 25)) = xs[4]? := hf 4 _ rfl
  rw [cells3] at h0
  rw [cells9] at h1 h2
  rw [cells38] at h3
  rw [cells25] at h4
  match cs, hlen, xs, hxl with
  | [u0, u1, u2, u3, u4, u5, u6], _, [y0, y1, y2, y3, y4], _ =>
    obtain ⟨k, e1, e2⟩ := open_num (h0.trans rfl)
    obtain ⟨s, f1, f2, -⟩ := open_text (h1.trans rfl)
    obtain ⟨t, g1, g2, -⟩ := open_text (h2.trans rfl)
    obtain ⟨d, i1, i2, i3, -⟩ := open_byts (h3.trans rfl)
    obtain ⟨ops, room, K, keep, kn, kc, j1, j2, j3⟩ := open_plan_cs (h4.trans rfl)
    have a0 : u0 = .int .i64 k := by simpa using e1
    have a1 : u1 = .string s := by simpa using f1
    have a2 : u2 = .string t := by simpa using g1
    have a3 : u3 = d.val := by simpa using i1
    have a4 : u4 = .int .i64 ops ∧ u5 = .int .i64 room ∧ u6 = .slice K kn kc := by simpa using j1
    obtain ⟨a4, a5, a6⟩ := a4
    subst a0 a1 a2 a3 a4 a5 a6
    simp only [Rows.uptoBulk, Rows.uptoBulkAll, List.map_cons, List.map_nil] at hb f2 g2 i3 j2 ⊢
    have hp := j3 (.inr (by omega))
    have hkl := hp.len
    subst hkl
    exact ⟨⟨k, s, t, d, ops, room, K, keep, kc⟩, rfl, ⟨e2, by show s.size ≤ _; omega, by show t.size ≤ _; omega, i2, hp⟩, by show d.l.length + 1 ≤ _; omega⟩
theorem bulk_add {α : Type} (f : α → Nat) : ∀ (T : List α) (ds : List (DataW H)), T.length = ds.length → (∀ (i : Nat) (s : α) (d : DataW H), T[i]? = some s → ds[i]? = some d → f s + 1 ≤ Rows.uptoBulk d) → (T.map f).sum + T.length ≤ Rows.uptoBulkAll ds
  | [], [], _, _ => by simp [Rows.uptoBulkAll]
  | [], _ :: _, h, _ => by simp at h
  | _ :: _, [], h, _ => by simp at h
  | s :: T, d :: ds, h, hp => by
    have ih := bulk_add f T ds (by simpa using h) (fun i s d h1 h2 => hp (i + 1) s d (by simpa using h1) (by simpa using h2))
    have h0 := hp 0 s d rfl rfl
    simp only [List.map_cons, List.sum_cons, List.length_cons, Rows.uptoBulkAll] at ih ⊢
    omega
theorem flat_get {α : Type} (f : α → List Value) (k : Nat) (hk : ∀ a, (f a).length = k) (h0 : 0 < k) : ∀ (l : List α) (j : Nat) (u : Value), (l.flatMap f)[j]? = some u → ∃ a, l[j / k]? = some a ∧ (f a)[j % k]? = some u
  | [], j, u, h => by simp at h
  | a :: l, j, u, h => by
    rw [List.flatMap_cons] at h
    by_cases hj : j < k
    · rw [List.getElem?_append_left (by rw [hk]; omega)] at h
      exact ⟨a, by rw [Nat.div_eq_of_lt hj]; rfl, by rw [Nat.mod_eq_of_lt hj]; exact h⟩
    · rw [List.getElem?_append_right (by rw [hk]; omega), hk] at h
      obtain ⟨b, h1, h2⟩ := flat_get f k hk h0 l (j - k) u h
      refine ⟨b, ?_, ?_⟩
      · rw [Nat.div_eq_sub_div h0 (by omega)]
        simpa using h1
      · rw [Nat.mod_eq_sub_mod (by omega)]
        exact h2

/-- A slice of structs, read. -/
theorem open_rows {α : Type} {t e : TypeId} (f : α → List Value) (k : Nat) (hk : ∀ a, (f a).length = k) (h0 : 0 < k) (hc : Try.prog.cellsOf e = k) (ht : Try.prog.underlying t = some (.slice e)) (h : DataW.trod enc Try.prog W 0 (fun _ => true) true fuel t cs = some x) (A : Option Addr) (n c : Nat) (hcs : cs = [.slice A n c])
    (P : α → DataW H → Prop) (hP : ∀ m (cs' : List Value) (y : DataW H × List MemPlace), DataW.trod enc Try.prog W 0 (fun _ => true) true m e cs' = some y → (Rows.uptoBulk y.1 ≤ Rows.uptoBulk x.1) → (∀ z ∈ y.1.weights Try.prog e, z ∈ x.1.weights Try.prog t) → ∃ a, cs' = f a ∧ P a y.1) :
    ∃ l : List α, l.length = n ∧ Lies W A (l.flatMap f) ∧ ∃ ds : List (DataW H), l.length = ds.length ∧ (∀ (i : Nat) (a : α) (d : DataW H), l[i]? = some a → ds[i]? = some d → P a d) ∧ Rows.uptoBulkAll ds + 1 ≤ Rows.uptoBulk x.1 ∧ ((∀ z ∈ x.1.weights Try.prog t, z ≤ reachBytes) → n * Try.prog.bytesOf e ≤ reachBytes) := by
  rcases Go.Deep.open_slice ht h with ⟨h1, hx⟩ | ⟨a, len, cap, m, fu, D, Pl, h1, _, hl, hm, hmm, hx, hi⟩
  · rw [h1] at hcs
    injection hcs with e1
    injection e1 with e1 e2 e3
    subst e1 e2 e3
    exact ⟨[], rfl, .inl rfl, [], rfl, fun i a d h => by simp at h, by rw [hx]; simp [Rows.uptoBulk, Rows.uptoBulkAll], fun _ => by simp⟩
  · rw [h1] at hcs
    injection hcs with e1
    injection e1 with e1 e2 e3
    subst e1 e2 e3
    simp only [if_true] at hmm
    subst hmm
    rw [hc] at hi
    have hx1 : x.1 = .slice ((List.range len).map D) ((List.range (m - len)).map fun j => D (len + j)) := by rw [hx]
    obtain ⟨l, hll, hq⟩ := list_of (P := fun i (q : α) => P q (D i) ∧ ∀ j u, (f q)[j]? = some u → W.cell? (a.add (i * k + j)) = some u) len (fun i hlt => by
      obtain ⟨cs', hc', ht'⟩ := hi i (by omega)
      obtain ⟨_, _, hat⟩ := World.cells?_some hc'
      have hmem : D i ∈ (List.range len).map D := List.mem_map_of_mem (List.mem_range.2 hlt)
      obtain ⟨q, e1, e2⟩ := hP _ _ _ ht' (by
        rw [hx1]
        have := bulk_in hmem
        simp only [Rows.uptoBulk]
        show Rows.uptoBulk (D i) ≤ _
        omega) (fun z hz => by
        rw [hx1]
        simp only [DataW.weights, ht]
        exact List.mem_cons_of_mem _ (List.mem_append.2 (.inl (weights_all hmem _ hz))))
      refine ⟨q, e2, fun j u hj => ?_⟩
      have hj3 : j < k := by
        have := (List.getElem?_eq_some_iff.1 hj).1
        rwa [hk] at this
      rw [← add_add, hat j hj3, e1]
      exact hj)
    refine ⟨l, hll, .inr ⟨a, rfl, fun j u hj => ?_⟩, (List.range len).map D, by simp [hll], fun i q d h1 h2 => ?_, ?_, fun hw => ?_⟩
    · obtain ⟨q, e1, e2⟩ := flat_get f k hk h0 l j u hj
      have := (hq _ q e1).2 _ u e2
      rwa [show j / k * k + j % k = j by rw [Nat.mul_comm]; exact Nat.div_add_mod j k] at this
    · have hlt := (List.getElem?_eq_some_iff.1 h1).1
      rw [List.getElem?_map, List.getElem?_range (by omega)] at h2
      simp only [Option.map_some, Option.some.injEq] at h2
      rw [← h2]
      exact (hq i q h1).1
    · rw [hx1]
      simp only [Rows.uptoBulk]
      omega
    · have := hw ((((List.range len).map D).length + ((List.range (m - len)).map fun j => D (len + j)).length) * Try.prog.bytesOf e) (by
        rw [hx1]
        simp only [DataW.weights, ht]
        exact List.mem_cons_self)
      simp only [List.length_map, List.length_range] at this
      refine Nat.le_trans (Nat.mul_le_mul_right _ ?_) this
      omega
theorem open_files (h : DataW.trod enc Try.prog W 0 (fun _ => true) true fuel 22 cs = some x) (hsz : ∀ n ∈ x.1.weights Try.prog 22, n ≤ reachBytes) (A : Option Addr) (n c : Nat) (hcs : cs = [.slice A n c]) : ∃ l, FsIn W A l n c := by
  obtain ⟨l, h1, h2, ds, h3, h4, h5, h6⟩ := open_rows (α := Fl) Fl.cells 3 (fun _ => rfl) (by omega) cells48 Try.underlying22 h A n c hcs (fun q _ => In W q.d.a q.d.l q.d.l.length q.d.c ∧ q.d.l.length ≤ 140737488351232 ∧ q.s.size ≤ 140737488351232) (fun m cs' y hy _ hw => by
    obtain ⟨q, e1, e2, _, _, e5⟩ := open_file hy
    exact ⟨q, e1, e2, e5 (fun z hz => hsz z (hw z hz))⟩)
  have hall : ∀ q ∈ l, In W q.d.a q.d.l q.d.l.length q.d.c ∧ q.d.l.length ≤ 140737488351232 ∧ q.s.size ≤ 140737488351232 := fun q hq => by
    obtain ⟨i, hi, e⟩ := List.mem_iff_getElem.1 hq
    exact h4 i q (ds[i]'(by omega)) (by rw [List.getElem?_eq_getElem hi, e]) (List.getElem?_eq_getElem (by omega))
  have h7 := h6 hsz
  rw [bytesFile] at h7
  exact ⟨l, h1, h2, fun q hq => (hall q hq).1, h7, fun q hq => (hall q hq).2.1, fun q hq => (hall q hq).2.2⟩
theorem open_files_up (h : DataW.trod enc Try.prog W 0 (fun _ => true) true fuel 22 cs = some x) (hb : Rows.uptoBulk x.1 ≤ 1048576) (A : Option Addr) (n c : Nat) (hcs : cs = [.slice A n c]) : ∃ l, FsUp W A l n c := by
  obtain ⟨l, h1, h2, ds, h3, h4, h5, -⟩ := open_rows (α := Fl) Fl.cells 3 (fun _ => rfl) (by omega) cells48 Try.underlying22 h A n c hcs (fun q d => In W q.d.a q.d.l q.d.l.length q.d.c ∧ q.d.l.length + q.s.size + 1 ≤ Rows.uptoBulk d ∧ Rows.uptoBulk d ≤ 1048576) (fun m cs' y hy hy2 _ => by
    obtain ⟨q, e1, e2, _, e4, _⟩ := open_file hy
    exact ⟨q, e1, e2, e4, by omega⟩)
  have hall : ∀ q ∈ l, In W q.d.a q.d.l q.d.l.length q.d.c ∧ q.d.l.length ≤ 1048576 ∧ q.s.size ≤ 1048576 := fun q hq => by
    obtain ⟨i, hi, e⟩ := List.mem_iff_getElem.1 hq
    have := h4 i q (ds[i]'(by omega)) (by rw [List.getElem?_eq_getElem hi, e]) (List.getElem?_eq_getElem (by omega))
    exact ⟨this.1, by omega, by omega⟩
  have hs := bulk_add (fun q : Fl => q.d.l.length) l ds h3 (fun i q d a1 a2 => by have := (h4 i q d a1 a2).2.1; omega)
  have e : (l.map (fun q : Fl => q.d.l.length)).sum = sumM (l.map Fl.rd) := by
    unfold sumM
    rw [List.map_map]
    rfl
  rw [e] at hs
  exact ⟨l, ⟨h1, h2, fun q hq => (hall q hq).1, by omega, fun q hq => by have := (hall q hq).2.1; omega, fun q hq => by have := (hall q hq).2.2; omega⟩, by omega⟩
theorem open_acts_up (h : DataW.trod enc Try.prog W 0 (fun _ => true) true fuel 26 cs = some x) (hb : Rows.uptoBulk x.1 ≤ 1048576) (A : Option Addr) (n c : Nat) (hcs : cs = [.slice A n c]) : ∃ l, AcsUp W A l n c := by
  obtain ⟨l, h1, h2, ds, h3, h4, h5, -⟩ := open_rows (α := Ac) Ac.cells 7 (fun _ => rfl) (by omega) cells40 Try.underlying26 h A n c hcs (fun a d => AcIn W a ∧ a.d.l.length + 1 ≤ Rows.uptoBulk d) (fun m cs' y hy hy2 _ => open_act hy (by omega))
  have hs := bulk_add (fun a : Ac => a.d.l.length) l ds h3 (fun i q d a1 a2 => (h4 i q d a1 a2).2)
  refine ⟨l, h1, h2, fun a ha => ?_, ?_⟩
  · obtain ⟨i, hi, e⟩ := List.mem_iff_getElem.1 ha
    exact (h4 i a (ds[i]'(by omega)) (by rw [List.getElem?_eq_getElem hi, e]) (List.getElem?_eq_getElem (by omega))).1
  · unfold sumA
    omega
theorem open_txt_said (h : DataW.trod enc Try.prog W 0 (fun _ => true) true fuel 9 cs = some x) (hsz : ∀ n ∈ x.1.weights Try.prog 9, n ≤ reachBytes) (s : ByteArray) (hcs : cs = [.string s]) : s.size ≤ 140737488351232 := by
  obtain ⟨r, e1, -, e3⟩ := open_text h
  rw [hcs] at e1
  injection e1 with e1
  injection e1 with e1
  subst e1
  exact e3 hsz
end
set_option maxRecDepth 100000 in
theorem open_plan_val {H : Type} {enc : TypeId × Value → H} {W : World} {fuel : Nat} {v : Value} {x : DataW H × List MemPlace} (h : DataW.trod enc Try.prog W 0 (fun _ => true) true fuel 25 v.cells.toList = some x) {base : Nat} (hval : Value.okWide Try.prog W .any base 25 v) :
    ∃ (ops room : Int) (A : Option Addr) (keep : List Int) (n c : Nat), v = Value.agg #[.int .i64 ops, .int .i64 room, .slice A n c] ∧ n + 1 ≤ Rows.uptoBulk x.1 ∧ ((∀ n ∈ x.1.weights Try.prog 25, n ≤ reachBytes) ∨ n * 8 ≤ 140737488351232 → PlIn W ops room A keep n c) := by
  obtain ⟨cs, rfl, -⟩ := okWide_struct Try.underlying25 hval
  obtain ⟨ops, room, A, keep, n, c, e, h1, h2⟩ := open_plan_cs h
  refine ⟨ops, room, A, keep, n, c, ?_, h1, h2⟩
  have e2 : cs.toList = [.int .i64 ops, .int .i64 room, .slice A n c] := by simpa [Value.cells] using e
  rw [show cs = cs.toList.toArray by simp, e2]
set_option maxRecDepth 100000 in
theorem open_plan {H : Type} {enc : TypeId × Value → H} {W : World} {fuel : Nat} {v : Value} {x : DataW H × List MemPlace} (h : DataW.trod enc Try.prog W 0 (fun _ => true) true fuel 25 v.cells.toList = some x) (hsz : ∀ n ∈ x.1.weights Try.prog 25, n ≤ reachBytes) {base : Nat} (hval : Value.okWide Try.prog W .any base 25 v) :
    ∃ (ops room : Int) (A : Option Addr) (n c : Nat), v = Value.agg #[.int .i64 ops, .int .i64 room, .slice A n c] ∧ ∃ keep, PlIn W ops room A keep n c := by
  obtain ⟨ops, room, A, keep, n, c, e, -, h2⟩ := open_plan_val h hval
  exact ⟨ops, room, A, n, c, e, keep, h2 (.inl hsz)⟩
set_option maxRecDepth 100000 in
theorem open_plan_up {H : Type} {enc : TypeId × Value → H} {W : World} {fuel : Nat} {v : Value} {x : DataW H × List MemPlace} (h : DataW.trod enc Try.prog W 0 (fun _ => true) true fuel 25 v.cells.toList = some x) (hb : Rows.uptoBulk x.1 ≤ 1048576) {base : Nat} (hval : Value.okWide Try.prog W .any base 25 v) :
    ∃ (ops room : Int) (A : Option Addr) (n c : Nat), v = Value.agg #[.int .i64 ops, .int .i64 room, .slice A n c] ∧ ∃ keep, PlIn W ops room A keep n c := by
  obtain ⟨ops, room, A, keep, n, c, e, h1, h2⟩ := open_plan_val h hval
  exact ⟨ops, room, A, n, c, e, keep, h2 (.inr (by omega))⟩

end Go.Proofs.Ytjacjafpeajhaaa
