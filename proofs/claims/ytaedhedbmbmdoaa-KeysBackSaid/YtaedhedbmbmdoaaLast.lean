/-
  Bytes and parts that come in, as the walks want them.
-/
import Derived.Test.YtaedhedbmbmdoaaLawA
import Derived.Deep.Slices
import Derived.OpenShut
import Derived.SizedLaws
namespace Go.Proofs.Ytaedhedbmbmdoaa
open Go.RowKit

theorem in_nil (w : World) : In w none [] 0 0 := ⟨rfl, Nat.le_refl _, by decide, .inl rfl, Byt.nil⟩
theorem in_row (w : World) (x : Addr) (l c : Nat) (zs : List Int) (hl : l ≤ c) (hm : c ≤ maxLen) (hz : zs.length = c) (hcell : ∀ i, i < zs.length → w.cell? (x.add i) = some (.int .u8 (zs.getD i 0))) (hwz : ∀ n ∈ zs, (Lit.int .u8 n).wf = true) : In w (some x) (zs.take l) l c := by
  refine ⟨by simp; omega, hl, by unfold maxLen at hm; omega, .inr ⟨x, rfl, fun j y hy => ?_⟩, fun y hy => ?_⟩
  · rw [List.getElem?_take] at hy
    split at hy
    · have hj := (List.getElem?_eq_some_iff.1 hy).1
      rw [hcell j hj, List.getD_eq_getElem?_getD, hy]
      rfl
    · cases hy
  · have := hwz y (List.mem_of_mem_take hy)
    simp [Lit.wf, IntKind.min, IntKind.max, IntKind.signed, IntKind.bits] at this
    omega

theorem cells41 : Try.prog.cellsOf 41 = 3 := by kernel_rfl
theorem cells4 : Try.prog.cellsOf 4 = 1 := by kernel_rfl
theorem cells2 : Try.prog.cellsOf 2 = 1 := by kernel_rfl
theorem cells9 : Try.prog.cellsOf 9 = 1 := by kernel_rfl
theorem bytesPart : Try.prog.bytesOf 41 = 32 := by kernel_rfl

/-- A part, read. -/
theorem open_part {H : Type} {enc : TypeId × Value → H} {W : World} {base : Nat} {spare : Nat → Bool} {held : Bool} {fuel : Nat} {cs : List Value} {x : DataW H × List MemPlace} (h : DataW.trod enc Try.prog W base spare held fuel 41 cs = some x) :
    ∃ q : Qt, cs = q.cells ∧ x.1 = .agg [.lit (.bool q.t), .lit (.int .i64 q.num), .lit (.string q.s.data.toList)] ∧ -9223372036854775808 ≤ q.num ∧ q.num ≤ 9223372036854775807 := by
  obtain ⟨xs, n, -, rfl, hlen, hxl, hf⟩ := DataW.trod_struct Try.underlying41 h
  rw [cells41] at hlen
  have h0 : DataW.trod enc Try.prog W base spare held n 4 ((cs.drop 0).take (Try.prog.cellsOf 4)) = xs[0]? := hf 0 _ rfl
  have h1 : DataW.trod enc Try.prog W base spare held n 2 ((cs.drop 1).take (Try.prog.cellsOf 2)) = xs[1]? := hf 1 _ rfl
  have h2 : DataW.trod enc Try.prog W base spare held n 9 ((cs.drop 2).take (Try.prog.cellsOf 9)) = xs[2]? := hf 2 _ rfl
  rw [cells4] at h0
  rw [cells2] at h1
  rw [cells9] at h2
  match cs, hlen, xs, hxl with
  | [u, v, s], _, [y0, y1, y2], _ =>
    obtain ⟨b, e1, e2⟩ := DataW.trod_bool Try.underlying4 (h0.trans rfl)
    obtain ⟨k, e3, e4, e5⟩ := DataW.trod_int Try.underlying2 (h1.trans rfl)
    obtain ⟨r, e6, e7, _⟩ := DataW.trod_string Try.underlying9 (h2.trans rfl)
    have f1 : u = .bool b := by simpa using e1
    have f2 : v = .int .i64 k := by simpa using e3
    have f3 : s = .string r := by simpa using e6
    subst f1
    subst f2
    subst f3
    refine ⟨⟨b, k, r⟩, rfl, by simp [e2, e4, e7], ?_⟩
    simpa [Lit.wf, IntKind.min, IntKind.max, IntKind.signed, IntKind.bits] using e5

theorem list_of {α : Type} {P : Nat → α → Prop} : ∀ n : Nat, (∀ i, i < n → ∃ q, P i q) → ∃ l : List α, l.length = n ∧ ∀ i q, l[i]? = some q → P i q
  | 0, _ => ⟨[], rfl, fun i q h => by simp at h⟩
  | n + 1, h => by
    obtain ⟨l, hl, hp⟩ := list_of n (fun i hi => h i (by omega))
    obtain ⟨q, hq⟩ := h n (by omega)
    refine ⟨l ++ [q], by simp [hl], fun i p hi => ?_⟩
    rcases Nat.lt_or_ge i n with k | k
    · exact hp i p (by rwa [List.getElem?_append_left (by omega)] at hi)
    · have hlt := (List.getElem?_eq_some_iff.1 hi).1
      simp only [List.length_append, List.length_singleton] at hlt
      have e : i = n := by omega
      subst e
      rw [List.getElem?_append_right (by omega), hl] at hi
      simp at hi
      subst hi
      exact hq

theorem weights_all {H : Type} {P : Program} {e : TypeId} {l : List (DataW H)} {d : DataW H} (h : d ∈ l) : ∀ n ∈ d.weights P e, n ∈ DataW.weightsAll P e l := by
  induction l with
  | nil => cases h
  | cons x r ih =>
    intro n hn
    simp only [DataW.weightsAll, List.mem_append]
    rcases List.mem_cons.1 h with k | k
    · subst k
      exact .inl hn
    · exact .inr (ih k n hn)

/-- A slice of parts, read. -/
theorem open_parts {H : Type} {enc : TypeId × Value → H} {W : World} {fuel : Nat} {cs : List Value} {x : DataW H × List MemPlace} (h : DataW.trod enc Try.prog W 0 (fun _ => true) true fuel 22 cs = some x) (hsz : ∀ n ∈ x.1.weights Try.prog 22, n ≤ reachBytes) (A : Option Addr) (n c : Nat) (hcs : cs = [.slice A n c]) : ∃ l, PIn W A l n c := by
  rcases Go.Deep.open_slice Try.underlying22 h with ⟨h1, _⟩ | ⟨a, len, cap, m, f, D, Pl, h1, _, hl, hm, hmm, hx, hi⟩
  · rw [h1] at hcs
    injection hcs with e
    injection e with e1 e2 e3
    subst e1
    subst e2
    subst e3
    exact ⟨[], rfl, Nat.le_refl _, by decide, by decide, .inl rfl, fun q hq => by cases hq⟩
  · rw [h1] at hcs
    injection hcs with e
    injection e with e1 e2 e3
    subst e1
    subst e2
    subst e3
    simp only [if_true] at hmm
    subst hmm
    rw [cells41] at hi
    have hx1 : x.1 = .slice ((List.range len).map D) ((List.range (m - len)).map fun j => D (len + j)) := by rw [hx]
    have hreach : m * 32 ≤ 140737488351232 := by
      have := hsz (((List.range len).map D).length + ((List.range (m - len)).map fun j => D (len + j)).length |>.mul (Try.prog.bytesOf 41)) (by
        rw [hx1]
        simp only [DataW.weights, Try.underlying22]
        exact List.mem_cons_self)
      rw [bytesPart] at this
      simp only [List.length_map, List.length_range, reachBytes] at this
      have e : (len + (m - len)).mul 32 = m * 32 := by show (len + (m - len)) * 32 = _; congr 1; omega
      omega
    obtain ⟨l, hll, hP⟩ := list_of (P := fun i (q : Qt) => q.Ok ∧ ∀ j u, q.cells[j]? = some u → W.cell? (a.add (i * 3 + j)) = some u) len (fun i hlt => by
      obtain ⟨cs', hc, ht⟩ := hi i (by omega)
      obtain ⟨_, _, hat⟩ := World.cells?_some hc
      obtain ⟨q, e1, e2, e3, e4⟩ := open_part ht
      have hw : q.s.data.toList.length ≤ reachBytes := hsz _ (by
        rw [hx1]
        simp only [DataW.weights, Try.underlying22]
        refine List.mem_cons_of_mem _ (List.mem_append.2 (.inl (weights_all (d := D i) (List.mem_map_of_mem (List.mem_range.2 hlt)) _ ?_)))
        simp only at e2
        rw [e2]
        simp [DataW.weights, Try.underlying41, DataW.weightsEach])
      refine ⟨q, ⟨?_, e3, e4⟩, fun j u hj => ?_⟩
      · have e : q.s.data.toList.length = q.s.size := by cases q.s; rfl
        rw [e] at hw
        exact hw
      · have hj3 : j < 3 := by
          have := (List.getElem?_eq_some_iff.1 hj).1
          simpa [Qt.cells] using this
        rw [← add_add, hat j hj3, e1]
        exact hj)
    refine ⟨l, hll, hl, by unfold maxLen at hm; omega, by omega, ?_, fun q hq => ?_⟩
    · refine .inr ⟨a, rfl, fun j u hj => ?_⟩
      obtain ⟨q, hq, hc⟩ := pvals_at hj
      obtain ⟨-, hcell⟩ := hP _ _ hq
      rcases hc with ⟨e, rfl⟩ | ⟨e, rfl⟩ | ⟨e, rfl⟩
      · have := hcell 0 _ rfl
        rwa [show j / 3 * 3 + 0 = j by omega] at this
      · have := hcell 1 _ rfl
        rwa [show j / 3 * 3 + 1 = j by omega] at this
      · have := hcell 2 _ rfl
        rwa [show j / 3 * 3 + 2 = j by omega] at this
    · obtain ⟨i, hi', e⟩ := List.mem_iff_getElem.1 hq
      exact (hP i q (by rw [List.getElem?_eq_getElem hi', e])).1

end Go.Proofs.Ytaedhedbmbmdoaa
