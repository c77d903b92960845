/-
  Slices of bytes that come in as a list, of a bulk that is bounded.
-/
import Derived.Test.YtefkibflellfpaaRows
import Derived.Test.YtefkibflellfpaaLast
import Derived.Test.YtefkibflellfpaaLawF
import Derived.Deep.Slices
import Derived.ChangeOld
import Derived.SizedLaws
namespace Go.Proofs.Ytefkibflellfpaa
open Go.ChangeShapes Go.WideShapes Go.ChangeAt Go.RowKit

theorem bulk_one {H : Type} (d : DataW H) : 1 ≤ Rows.uptoBulk d := by
  cases d with
  | lit l => cases l <;> simp [Rows.uptoBulk]
  | nil => simp [Rows.uptoBulk]
  | ptr d => simp [Rows.uptoBulk]
  | slice elems spare => simp [Rows.uptoBulk]
  | agg parts => simp [Rows.uptoBulk]
  | iface t d => simp [Rows.uptoBulk]
  | map entries => simp [Rows.uptoBulk]
  | held h => simp [Rows.uptoBulk]
theorem bulk_in {H : Type} {d : DataW H} {l : List (DataW H)} (h : d ∈ l) : Rows.uptoBulk d ≤ Rows.uptoBulkAll l := by
  induction l with
  | nil => cases h
  | cons x r ih =>
    simp only [Rows.uptoBulkAll]
    rcases List.mem_cons.1 h with e | e
    · subst e
      omega
    · have := ih e
      omega
theorem bulk_length {H : Type} (l : List (DataW H)) : l.length ≤ Rows.uptoBulkAll l := by
  induction l with
  | nil => simp [Rows.uptoBulkAll]
  | cons x r ih =>
    have := bulk_one x
    simp only [Rows.uptoBulkAll, List.length_cons]
    omega
theorem bulk_sum {H : Type} : ∀ (T : List Sl) (ds : List (DataW H)), T.length = ds.length → (∀ (i : Nat) (s : Sl) (d : DataW H), T[i]? = some s → ds[i]? = some d → s.l.length + 1 ≤ Rows.uptoBulk d) → (byts T).flatten.length + T.length ≤ Rows.uptoBulkAll ds
  | [], [], _, _ => by simp [byts, Rows.uptoBulkAll]
  | [], _ :: _, h, _ => by simp at h
  | _ :: _, [], h, _ => by simp at h
  | s :: T, d :: ds, h, hp => by
    have ih := bulk_sum T ds (by simpa using h) (fun i s d h1 h2 => hp (i + 1) s d (by simpa using h1) (by simpa using h2))
    have h0 := hp 0 s d rfl rfl
    simp only [byts, List.map_cons, List.flatten_cons, List.length_append, List.length_cons, Rows.uptoBulkAll] at ih ⊢
    omega
theorem list_of {α : Type} {P : Nat → α → Prop} : ∀ n : Nat, (∀ i, i < n → ∃ q, P i q) → ∃ l : List α, l.length = n ∧ ∀ i q, l[i]? = some q → P i q
  | 0, _ => ⟨[], rfl, fun i q h => by simp at h⟩
  | n + 1, h => by
    obtain ⟨l, hl, hp⟩ := list_of n (fun i hi => h i (by omega))
    obtain ⟨q, hq⟩ := h n (by omega)
    refine ⟨l ++ [q], by simp [hl], fun i p hi => ?_⟩
    rcases Nat.lt_or_ge i n with k | k
    · exact hp i p (by rwa [List.getElem?_append_left (by omega)] at hi)
    · have hlt := (List.getElem?_eq_some_iff.1 hi).1
      simp only [List.length_append, List.length_singleton] at hlt
      have e : i = n := by omega
      subst e
      rw [List.getElem?_append_right (by omega), hl] at hi
      simp at hi
      subst hi
      exact hq
theorem cells22 : Try.prog.cellsOf 22 = 1 := by kernel_rfl

/-- A slice of slices, read. -/
theorem open_slcs {H : Type} {enc : TypeId × Value → H} {W : World} {fuel : Nat} {cs : List Value} {x : DataW H × List MemPlace} (h : DataW.trod enc Try.prog W 0 (fun _ => true) true fuel 34 cs = some x) (hb : Rows.uptoBulk x.1 ≤ 1048576) (A : Option Addr) (n c : Nat) (hcs : cs = [.slice A n c]) : ∃ T, SIn W A T n c := by
  rcases Go.Deep.open_slice1 Try.underlying34 cells22 h with ⟨h1, _⟩ | ⟨a, len, cap, m, f, V, D, Pl, h1, _, hl, hm, hmm, hx, hi⟩
  · rw [h1] at hcs
    injection hcs with e
    injection e with e1 e2 e3
    subst e1
    subst e2
    subst e3
    exact ⟨[], rfl, Nat.le_refl _, by decide, .inl rfl, AllIn.nil _, by decide⟩
  · rw [h1] at hcs
    injection hcs with e
    injection e with e1 e2 e3
    subst e1
    subst e2
    subst e3
    simp only [if_true] at hmm
    subst hmm
    obtain ⟨T, hlen, hP⟩ := list_of (P := fun i (s : Sl) => V i = s.val ∧ In W s.a s.l s.l.length s.c ∧ s.l.length + 1 ≤ Rows.uptoBulk (D i)) len (fun i hlt => by
      obtain ⟨_, ht⟩ := hi i (by omega)
      rcases open_ints Try.underlying22 Try.underlying5 (by kernel_rfl) ht with ⟨hc0, _⟩ | ⟨y, l, d, zs, hc0, _, hl', hm', hz, hxx, hcell, hwz⟩
      · injection hc0 with e
        exact ⟨⟨none, 0, []⟩, e, in_nil W, bulk_one _⟩
      · injection hc0 with e
        simp only [Prod.mk.injEq] at hxx
        simp only [if_true] at hz
        have hin := in_row W y l d zs hl' hm' hz hcell hwz
        refine ⟨⟨some y, d, zs.take l⟩, ?_, hin.of_n, ?_⟩
        · rw [e]
          show _ = Value.slice (some y) (zs.take l).length d
          rw [hin.len]
        · rw [hxx.1]
          have h2 := bulk_length (H := H) (lits .u8 (zs.take l))
          simp only [lits, List.length_map] at h2
          simp only [Rows.uptoBulk, lits]
          omega)
    have hsum : (byts T).flatten.length + T.length ≤ Rows.uptoBulkAll ((List.range len).map D) := bulk_sum T _ (by simp [hlen]) (fun i s d h1 h2 => by
      have hlt := (List.getElem?_eq_some_iff.1 h1).1
      simp only [List.getElem?_map, List.getElem?_range (show i < len by omega), Option.map_some, Option.some.injEq] at h2
      rw [← h2]
      exact (hP i s h1).2.2)
    have hb2 : Rows.uptoBulkAll ((List.range len).map D) ≤ 1048576 := by
      rw [hx] at hb
      simp only [Rows.uptoBulk] at hb
      omega
    refine ⟨T, hlen, hl, by unfold maxLen at hm; omega, .inr ⟨a, rfl, fun j u hj => ?_⟩, fun s hs => ?_, by rw [hlen] at hsum; omega⟩
    · simp only [svals, List.getElem?_map, Option.map_eq_some_iff] at hj
      obtain ⟨s, h1, rfl⟩ := hj
      have hlt := (List.getElem?_eq_some_iff.1 h1).1
      rw [(hi j (by omega)).1, (hP j s h1).1]
    · obtain ⟨i, hi', e⟩ := List.mem_iff_getElem.1 hs
      exact (hP i s (by rw [List.getElem?_eq_getElem hi', e])).2.1

end Go.Proofs.Ytefkibflellfpaa
