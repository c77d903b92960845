/-
  Bytes, plans and lists of records that come in, as the walks want them; the listed variables, laid for the witness.
-/
import Derived.Test.YtjppklgegpmfpaaGreatDoorRows
import Derived.Test.YtjppklgegpmfpaaGreatDoorWgP
import Derived.Deep.Slices
import Derived.OpenShut
import Derived.ChangeOld
import Derived.SizedLaws
namespace Go.Proofs.YtjppklgegpmfpaaGreatDoor
open Go.ChangeShapes Go.WideShapes Go.ChangeAt Go.RowKit

theorem in_nil (w : World) : In w none [] 0 0 := ⟨rfl, Nat.le_refl _, by decide, .inl rfl, Byt.nil⟩
theorem in_row (w : World) (x : Addr) (l c : Nat) (zs : List Int) (hl : l ≤ c) (hm : c ≤ maxLen) (hz : zs.length = c) (hcell : ∀ i, i < zs.length → w.cell? (x.add i) = some (.int .u8 (zs.getD i 0))) (hwz : ∀ n ∈ zs, (Lit.int .u8 n).wf = true) : In w (some x) (zs.take l) l c := by
  refine ⟨by simp; omega, hl, by unfold maxLen at hm; omega, .inr ⟨x, rfl, fun j y hy => ?_⟩, fun y hy => ?_⟩
  · rw [List.getElem?_take] at hy
    split at hy
    · have hj := (List.getElem?_eq_some_iff.1 hy).1
      rw [hcell j hj, List.getD_eq_getElem?_getD, hy]
      rfl
    · cases hy
  · have := hwz y (List.mem_of_mem_take hy)
    simp [Lit.wf, IntKind.min, IntKind.max, IntKind.signed, IntKind.bits] at this
    omega
theorem bulk_one {H : Type} (d : DataW H) : 1 ≤ Rows.uptoBulk d := by
  cases d with
  | lit l => cases l <;> simp [Rows.uptoBulk]
  | nil => simp [Rows.uptoBulk]
  | ptr d => simp [Rows.uptoBulk]
  | slice elems spare => simp [Rows.uptoBulk]
  | agg parts => simp [Rows.uptoBulk]
  | iface t d => simp [Rows.uptoBulk]
  | map entries => simp [Rows.uptoBulk]
  | held h => simp [Rows.uptoBulk]
theorem bulk_in {H : Type} {d : DataW H} {l : List (DataW H)} (h : d ∈ l) : Rows.uptoBulk d ≤ Rows.uptoBulkAll l := by
  induction l with
  | nil => cases h
  | cons x r ih =>
    simp only [Rows.uptoBulkAll]
    rcases List.mem_cons.1 h with e | e
    · subst e
      omega
    · have := ih e
      omega
theorem bulk_length {H : Type} (l : List (DataW H)) : l.length ≤ Rows.uptoBulkAll l := by
  induction l with
  | nil => simp [Rows.uptoBulkAll]
  | cons x r ih =>
    have := bulk_one x
    simp only [Rows.uptoBulkAll, List.length_cons]
    omega
theorem list_of {α : Type} {P : Nat → α → Prop} : ∀ n : Nat, (∀ i, i < n → ∃ q, P i q) → ∃ l : List α, l.length = n ∧ ∀ i q, l[i]? = some q → P i q
  | 0, _ => ⟨[], rfl, fun i q h => by simp at h⟩
  | n + 1, h => by
    obtain ⟨l, hl, hp⟩ := list_of n (fun i hi => h i (by omega))
    obtain ⟨q, hq⟩ := h n (by omega)
    refine ⟨l ++ [q], by simp [hl], fun i p hi => ?_⟩
    rcases Nat.lt_or_ge i n with k | k
    · exact hp i p (by rwa [List.getElem?_append_left (by omega)] at hi)
    · have hlt := (List.getElem?_eq_some_iff.1 hi).1
      simp only [List.length_append, List.length_singleton] at hlt
      have e : i = n := by omega
      subst e
      rw [List.getElem?_append_right (by omega), hl] at hi
      simp at hi
      subst hi
      exact hq
theorem weights_all {H : Type} {P : Program} {e : TypeId} {l : List (DataW H)} {d : DataW H} (h : d ∈ l) : ∀ n ∈ d.weights P e, n ∈ DataW.weightsAll P e l := by
  induction l with
  | nil => cases h
  | cons x r ih =>
    intro n hn
    simp only [DataW.weightsAll, List.mem_append]
    rcases List.mem_cons.1 h with k | k
    · subst k
      exact .inl hn
    · exact .inr (ih k n hn)
theorem cells35 : Tryz.prog.cellsOf 35 = 1 := by kernel_rfl
theorem cells23 : Tryz.prog.cellsOf 23 = 1 := by kernel_rfl
theorem cells3 : Tryz.prog.cellsOf 3 = 1 := by kernel_rfl
theorem cells25 : Tryz.prog.cellsOf 25 = 3 := by kernel_rfl
theorem bytesInt : Tryz.prog.bytesOf 3 = 8 := by kernel_rfl

section
variable {H : Type} {enc : TypeId × Value → H} {W : World} {fuel : Nat} {cs : List Value} {x : DataW H × List MemPlace}
theorem open_keep (h : DataW.trod enc Tryz.prog W 0 (fun _ => true) true fuel 23 cs = some x) :
    ∃ (A : Option Addr) (n c : Nat) (keep : List Int), cs = [.slice A n c] ∧ keep.length = n ∧ Ints W A keep ∧ (∀ z ∈ keep, -9223372036854775808 ≤ z ∧ z ≤ 9223372036854775807) ∧ n + 1 ≤ Rows.uptoBulk x.1 ∧ ((∀ n ∈ x.1.weights Tryz.prog 23, n ≤ reachBytes) → n * 8 ≤ 140737488351232) := by
  rcases open_ints Tryz.underlying23 Tryz.underlying3 (by kernel_rfl) h with ⟨hc0, hx⟩ | ⟨y, l, d, zs, hc0, _, hl', hm', hz, hxx, hcell, hwz⟩
  · exact ⟨none, 0, 0, [], hc0, rfl, .inl rfl, fun z hz => (List.not_mem_nil hz).elim, bulk_one _, fun _ => by omega⟩
  · simp only [if_true] at hz
    refine ⟨some y, l, d, zs.take l, hc0, by simp; omega, .inr ⟨y, rfl, fun j u hu => ?_⟩, fun z hz2 => ?_, ?_, fun hw => ?_⟩
    · rw [List.getElem?_map, Option.map_eq_some_iff] at hu
      obtain ⟨v, hv, rfl⟩ := hu
      rw [List.getElem?_take] at hv
      split at hv
      · have hj := (List.getElem?_eq_some_iff.1 hv).1
        rw [hcell j hj, List.getD_eq_getElem?_getD, hv]
        rfl
      · cases hv
    · have := hwz z (List.mem_of_mem_take hz2)
      simpa [Lit.wf, IntKind.min, IntKind.max, IntKind.signed, IntKind.bits] using this
    · rw [hxx]
      have h2 := bulk_length (H := H) (lits .i64 (zs.take l))
      simp only [lits, List.length_map, List.length_take] at h2
      simp only [Rows.uptoBulk, lits]
      omega
    · have := hw (((lits (H := H) .i64 (zs.take l)).length + (lits (H := H) .i64 (zs.drop l)).length) * Tryz.prog.bytesOf 3) (by
        rw [hxx]
        simp only [DataW.weights, Tryz.underlying23]
        exact List.mem_cons_self)
      rw [bytesInt] at this
      simp only [lits, List.length_map, reachBytes, List.length_take, List.length_drop] at this
      omega
theorem open_num (h : DataW.trod enc Tryz.prog W 0 (fun _ => true) true fuel 3 cs = some x) : ∃ k : Int, cs = [.int .i64 k] ∧ -9223372036854775808 ≤ k ∧ k ≤ 9223372036854775807 := by
  obtain ⟨k, e3, e4, e5⟩ := DataW.trod_int Tryz.underlying3 h
  refine ⟨k, e3, ?_⟩
  simpa [Lit.wf, IntKind.min, IntKind.max, IntKind.signed, IntKind.bits] using e5
end
structure PlIn (w : World) (ops room : Int) (A : Option Addr) (keep : List Int) (n c : Nat) : Prop where
  len : keep.length = n
  ints : Ints w A keep
  ki : ∀ z ∈ keep, -9223372036854775808 ≤ z ∧ z ≤ 9223372036854775807
  ops : -9223372036854775808 ≤ ops ∧ ops ≤ 9223372036854775807
  room : -9223372036854775808 ≤ room ∧ room ≤ 9223372036854775807
  few : n * 8 ≤ 140737488351232
section
variable {H : Type} {enc : TypeId × Value → H} {W : World} {fuel : Nat} {cs : List Value} {x : DataW H × List MemPlace}
set_option maxRecDepth 100000 in
theorem open_plan_cs (h : DataW.trod enc Tryz.prog W 0 (fun _ => true) true fuel 25 cs = some x) :
    ∃ ops room A keep n c, cs = [.int .i64 ops, .int .i64 room, .slice A n c] ∧ n + 1 ≤ Rows.uptoBulk x.1 ∧ ((∀ n ∈ x.1.weights Tryz.prog 25, n ≤ reachBytes) ∨ n * 8 ≤ 140737488351232 → PlIn W ops room A keep n c) := by
  obtain ⟨xs, n, -, rfl, hlen, hxl, hf⟩ := DataW.trod_struct Tryz.underlying25 h
  rw [cells25] at hlen
  have h0 : DataW.trod enc Tryz.prog W 0 (fun _ => true) true n 3 ((cs.drop 0).take (Tryz.prog.cellsOf 3)) = xs[0]? := hf 0 _ rfl
  have h1 : DataW.trod enc Tryz.prog W 0 (fun _ => true) true n 3 ((cs.drop 1).take (Tryz.prog.cellsOf 3)) = xs[1]? := hf 1 _ rfl
  have h2 : DataW.trod enc Tryz.prog W 0 (fun _ => true) true n 23 ((cs.drop 2).take (Tryz.prog.cellsOf 23)) = xs[2]? := hf 2 _ rfl
  rw [cells3] at h0 h1
  rw [cells23] at h2
  match cs, hlen, xs, hxl with
  | [u, v, t], _, [y0, y1, y2], _ =>
    obtain ⟨a, e1, e2⟩ := open_num (h0.trans rfl)
    obtain ⟨b, f1, f2⟩ := open_num (h1.trans rfl)
    obtain ⟨A, kn, c, keep, g1, g2, g3, g4, g5, g6⟩ := open_keep (h2.trans rfl)
    have a1 : u = .int .i64 a := by simpa using e1
    have a2 : v = .int .i64 b := by simpa using f1
    have a3 : t = .slice A kn c := by simpa using g1
    subst a1
    subst a2
    subst a3
    refine ⟨a, b, A, keep, kn, c, rfl, ?_, fun hw => ⟨g2, g3, g4, e2, f2, hw.elim (fun hw => g6 (fun m hm => hw m ?_)) id⟩⟩
    · simp only [Rows.uptoBulk, Rows.uptoBulkAll, List.map_cons, List.map_nil] at g5 ⊢
      omega
    · simp only [DataW.weights, Tryz.underlying25]
      exact DataW.weights_mem_each (j := 2) (t := 23) rfl rfl m hm
end
set_option maxRecDepth 100000 in
theorem open_plan_val {H : Type} {enc : TypeId × Value → H} {W : World} {fuel : Nat} {v : Value} {x : DataW H × List MemPlace} (h : DataW.trod enc Tryz.prog W 0 (fun _ => true) true fuel 25 v.cells.toList = some x) {base : Nat} (hval : Value.okWide Tryz.prog W .any base 25 v) :
    ∃ (ops room : Int) (A : Option Addr) (keep : List Int) (n c : Nat), v = Value.agg #[.int .i64 ops, .int .i64 room, .slice A n c] ∧ n + 1 ≤ Rows.uptoBulk x.1 ∧ ((∀ n ∈ x.1.weights Tryz.prog 25, n ≤ reachBytes) ∨ n * 8 ≤ 140737488351232 → PlIn W ops room A keep n c) := by
  obtain ⟨cs, rfl, -⟩ := okWide_struct Tryz.underlying25 hval
  obtain ⟨ops, room, A, keep, n, c, e, h1, h2⟩ := open_plan_cs h
  refine ⟨ops, room, A, keep, n, c, ?_, h1, h2⟩
  have e2 : cs.toList = [.int .i64 ops, .int .i64 room, .slice A n c] := by simpa [Value.cells] using e
  rw [show cs = cs.toList.toArray by simp, e2]
set_option maxRecDepth 100000 in
theorem open_plan {H : Type} {enc : TypeId × Value → H} {W : World} {fuel : Nat} {v : Value} {x : DataW H × List MemPlace} (h : DataW.trod enc Tryz.prog W 0 (fun _ => true) true fuel 25 v.cells.toList = some x) (hsz : ∀ n ∈ x.1.weights Tryz.prog 25, n ≤ reachBytes) {base : Nat} (hval : Value.okWide Tryz.prog W .any base 25 v) :
    ∃ (ops room : Int) (A : Option Addr) (n c : Nat), v = Value.agg #[.int .i64 ops, .int .i64 room, .slice A n c] ∧ ∃ keep, PlIn W ops room A keep n c := by
  obtain ⟨ops, room, A, keep, n, c, e, -, h2⟩ := open_plan_val h hval
  exact ⟨ops, room, A, n, c, e, keep, h2 (.inl hsz)⟩

/-- A list of records that comes in. -/
structure SIn (w : World) (A : Option Addr) (T : List Sl) (n c : Nat) : Prop where
  len : T.length = n
  cap : n ≤ c
  top : (c : Int) ≤ 9223372036854775807
  lies : Lies w A (svals T)
  all : AllIn w T
theorem SIn.kept {w w' : World} {A : Option Addr} {T : List Sl} {n c : Nat} (h : SIn w A T n c) (hb : Below w.heap.size w w') : SIn w' A T n c := ⟨h.len, h.cap, h.top, h.lies.kept hb, h.all.kept hb⟩
theorem open_slcs {H : Type} {enc : TypeId × Value → H} {W : World} {fuel : Nat} {cs : List Value} {x : DataW H × List MemPlace} (h : DataW.trod enc Tryz.prog W 0 (fun _ => true) true fuel 22 cs = some x) (A : Option Addr) (n c : Nat) (hcs : cs = [.slice A n c]) : ∃ T, SIn W A T n c := by
  rcases Go.Deep.open_slice1 Tryz.underlying22 cells35 h with ⟨h1, _⟩ | ⟨a, len, cap, m, f, V, D, Pl, h1, _, hl, hm, hmm, hx, hi⟩
  · rw [h1] at hcs
    injection hcs with e
    injection e with e1 e2 e3
    subst e1
    subst e2
    subst e3
    exact ⟨[], rfl, Nat.le_refl _, by decide, .inl rfl, AllIn.nil _⟩
  · rw [h1] at hcs
    injection hcs with e
    injection e with e1 e2 e3
    subst e1
    subst e2
    subst e3
    simp only [if_true] at hmm
    subst hmm
    obtain ⟨T, hlen, hP⟩ := list_of (P := fun i (s : Sl) => V i = s.val ∧ In W s.a s.l s.l.length s.c) len (fun i hlt => by
      obtain ⟨_, ht⟩ := hi i (by omega)
      rcases open_ints Tryz.underlying35 Tryz.underlying5 (by kernel_rfl) ht with ⟨hc0, _⟩ | ⟨y, l, d, zs, hc0, _, hl', hm', hz, hxx, hcell, hwz⟩
      · injection hc0 with e
        exact ⟨⟨none, 0, []⟩, e, in_nil W⟩
      · injection hc0 with e
        simp only [Prod.mk.injEq] at hxx
        simp only [if_true] at hz
        have hin := in_row W y l d zs hl' hm' hz hcell hwz
        refine ⟨⟨some y, d, zs.take l⟩, ?_, hin.of_n⟩
        rw [e]
        show _ = Value.slice (some y) (zs.take l).length d
        rw [hin.len])
    refine ⟨T, hlen, hl, by unfold maxLen at hm; omega, .inr ⟨a, rfl, fun j u hj => ?_⟩, fun s hs => ?_⟩
    · simp only [svals, List.getElem?_map, Option.map_eq_some_iff] at hj
      obtain ⟨s, h1, rfl⟩ := hj
      have hlt := (List.getElem?_eq_some_iff.1 h1).1
      rw [(hi j (by omega)).1, (hP j s h1).1]
    · obtain ⟨i, hi', e⟩ := List.mem_iff_getElem.1 hs
      exact (hP i s (by rw [List.getElem?_eq_getElem hi', e])).2

/-- The listed variables' cells, laid into their blocks; the two errors lie behind. -/
def fill (cs : Array Value) : Obj → Obj
  | .cells _ t frozen => .cells cs t frozen
  | o => o
noncomputable def low : Nat := (World.holding Tryz.prog default ⟨#[], #[], []⟩).heap.size
def rngS : ByteArray := ⟨#[118, 97, 108, 117, 101, 32, 111, 117, 116, 32, 111, 102, 32, 114, 97, 110, 103, 101]⟩
def synS : ByteArray := ⟨#[105, 110, 118, 97, 108, 105, 100, 32, 115, 121, 110, 116, 97, 120]⟩
noncomputable def tables (h : Array Obj) : Array Obj :=
  (((h.modify 0 (fill #[.int .u64 1, .int .u64 10, .int .u64 100, .int .u64 1000, .int .u64 10000, .int .u64 100000, .int .u64 1000000, .int .u64 10000000, .int .u64 100000000, .int .u64 1000000000, .int .u64 10000000000, .int .u64 100000000000, .int .u64 1000000000000, .int .u64 10000000000000, .int .u64 100000000000000, .int .u64 1000000000000000, .int .u64 10000000000000000, .int .u64 100000000000000000, .int .u64 1000000000000000000, .int .u64 10000000000000000000])).modify 4 (fill #[.int .u8 0, .int .u8 1, .int .u8 28, .int .u8 2, .int .u8 29, .int .u8 14, .int .u8 24, .int .u8 3, .int .u8 30, .int .u8 22, .int .u8 20, .int .u8 15, .int .u8 25, .int .u8 17, .int .u8 4, .int .u8 8, .int .u8 31, .int .u8 27, .int .u8 13, .int .u8 23, .int .u8 21, .int .u8 19, .int .u8 16, .int .u8 7, .int .u8 26, .int .u8 12, .int .u8 18, .int .u8 6, .int .u8 11, .int .u8 5, .int .u8 10, .int .u8 9])).modify 5 (fill #[.int .u8 0, .int .u8 1, .int .u8 56, .int .u8 2, .int .u8 57, .int .u8 49, .int .u8 28, .int .u8 3, .int .u8 61, .int .u8 58, .int .u8 42, .int .u8 50, .int .u8 38, .int .u8 29, .int .u8 17, .int .u8 4, .int .u8 62, .int .u8 47, .int .u8 59, .int .u8 36, .int .u8 45, .int .u8 43, .int .u8 51, .int .u8 22, .int .u8 53, .int .u8 39, .int .u8 33, .int .u8 30, .int .u8 24, .int .u8 18, .int .u8 12, .int .u8 5, .int .u8 63, .int .u8 55, .int .u8 48, .int .u8 27, .int .u8 60, .int .u8 41, .int .u8 37, .int .u8 16, .int .u8 46, .int .u8 35, .int .u8 44, .int .u8 21, .int .u8 52, .int .u8 32, .int .u8 23, .int .u8 11, .int .u8 54, .int .u8 26, .int .u8 40, .int .u8 15, .int .u8 34, .int .u8 20, .int .u8 31, .int .u8 10, .int .u8 25, .int .u8 14, .int .u8 19, .int .u8 9, .int .u8 13, .int .u8 8, .int .u8 7, .int .u8 6]) |>.modify 3 (fill #[.iface 171 (.pointer (some ⟨low, 0, none⟩))])).modify 2 (fill #[.iface 171 (.pointer (some ⟨low + 1, 0, none⟩))])
noncomputable def laidWorld (os : Os) : World :=
  { World.holding Tryz.prog os ⟨#[.cells #[.string rngS] 173, .cells #[.string synS] 173], #[], []⟩ with heap := tables (World.holding Tryz.prog os ⟨#[.cells #[.string rngS] 173, .cells #[.string synS] 173], #[], []⟩).heap }

end Go.Proofs.YtjppklgegpmfpaaGreatDoor
