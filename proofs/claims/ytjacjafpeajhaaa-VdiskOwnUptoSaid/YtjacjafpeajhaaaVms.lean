/-
  What the calls leave, on what is read of the disk: how many files, how many bytes, which names; no more synced than there is.
-/
import Derived.Test.YtjacjafpeajhaaaLawA
namespace Go.Proofs.Ytjacjafpeajhaaa
open Go.RowKit

abbrev Rd := ByteArray × List Int × Int
/-- At most a file more, so many bytes more, names of a bound. -/
structure Le7 (fs fs' : List Rd) (c N : Nat) : Prop where
  few : fs'.length ≤ fs.length + 1
  sum : sumM fs' ≤ sumM fs + c
  names : (∀ x ∈ fs, x.1.size ≤ N) → ∀ x ∈ fs', x.1.size ≤ N
  sane : Sane fs → Sane fs'
theorem Le7.refl (fs : List Rd) (c N : Nat) : Le7 fs fs c N := ⟨by omega, by omega, fun h => h, fun h => h⟩
theorem sum_cons (x : Rd) (fs : List Rd) : sumM (x :: fs) = x.2.1.length + sumM fs := by simp [sumM]
theorem sum_ins (p : Rd) : ∀ fs : List Rd, sumM (insM p fs) = sumM fs + p.2.1.length
  | [] => by simp [insM, sumM]
  | x :: fs => by
    unfold insM
    split
    · rw [sum_cons, sum_cons]
      omega
    · rw [sum_cons, sum_cons, sum_ins p fs]
      omega
theorem len_ins (p : Rd) : ∀ fs : List Rd, (insM p fs).length = fs.length + 1
  | [] => rfl
  | x :: fs => by
    unfold insM
    split
    · simp
    · simp [len_ins p fs]
theorem mem_ins (p x : Rd) : ∀ fs : List Rd, x ∈ insM p fs → x = p ∨ x ∈ fs
  | [], h => by simp [insM] at h; exact .inl h
  | y :: fs, h => by
    unfold insM at h
    split at h
    · rcases List.mem_cons.1 h with h | h
      · exact .inl h
      · exact .inr h
    · rcases List.mem_cons.1 h with h | h
      · exact .inr (by simp [h])
      · exact (mem_ins p x fs h).imp id (List.mem_cons_of_mem _)
theorem sum_erase {p : Rd} : ∀ {fs : List Rd} {i : Nat}, fs[i]? = some p → sumM (fs.eraseIdx i) + p.2.1.length = sumM fs
  | [], _, h => by simp at h
  | x :: fs, 0, h => by
    simp at h
    subst h
    rw [List.eraseIdx_zero, List.tail_cons, sum_cons]
    omega
  | x :: fs, i + 1, h => by
    have := sum_erase (fs := fs) (i := i) (by simpa using h)
    rw [List.eraseIdx_cons_succ, sum_cons, sum_cons]
    omega
theorem sum_erase_le : ∀ (fs : List Rd) (i : Nat), sumM (fs.eraseIdx i) ≤ sumM fs
  | [], _ => by simp
  | x :: fs, 0 => by rw [List.eraseIdx_zero, List.tail_cons, sum_cons]; omega
  | x :: fs, i + 1 => by
    have := sum_erase_le fs i
    rw [List.eraseIdx_cons_succ, sum_cons, sum_cons]
    omega
theorem sum_set {p q : Rd} : ∀ {fs : List Rd} {i : Nat}, fs[i]? = some p → sumM (fs.set i q) + p.2.1.length = sumM fs + q.2.1.length
  | [], _, h => by simp at h
  | x :: fs, 0, h => by
    simp at h
    subst h
    rw [List.set_cons_zero, sum_cons, sum_cons]
    omega
  | x :: fs, i + 1, h => by
    have := sum_set (q := q) (fs := fs) (i := i) (by simpa using h)
    rw [List.set_cons_succ, sum_cons, sum_cons]
    omega
theorem long_le : ∀ {fs : List Rd} {x : Rd}, x ∈ fs → x.2.1.length ≤ sumM fs
  | y :: fs, x, h => by
    rw [sum_cons]
    rcases List.mem_cons.1 h with e | h
    · subst e; omega
    · have := long_le h; omega
theorem set_le {fs : List Rd} {i : Nat} {p q : Rd} {c N : Nat} (hp : fs[i]? = some p) (h1 : q.1 = p.1) (h2 : q.2.1.length ≤ p.2.1.length + c) (h3 : (0 ≤ p.2.2 ∧ p.2.2 ≤ p.2.1.length) → 0 ≤ q.2.2 ∧ q.2.2 ≤ q.2.1.length) : Le7 fs (fs.set i q) c N := by
  have hm := List.mem_of_getElem? hp
  refine ⟨by rw [List.length_set]; omega, by have := sum_set (q := q) hp; omega, fun h x hx => ?_, fun h x hx => ?_⟩
  · rcases List.mem_or_eq_of_mem_set hx with h4 | h4
    · exact h x h4
    · subst h4
      rw [h1]
      exact h p hm
  · rcases List.mem_or_eq_of_mem_set hx with h4 | h4
    · exact h x h4
    · subst h4
      exact h3 (h p hm)
theorem sync_le (s : ByteArray) (fs : List Rd) (c N : Nat) : Le7 fs (syncM s fs) c N := by
  unfold syncM
  cases findM s fs with
  | none => exact Le7.refl _ _ _
  | some i =>
    cases h : fs[i]? with
    | none => simp only [h]; exact Le7.refl _ _ _
    | some p => simp only [h]; exact set_le h rfl (by simp) (fun _ => by simp)
theorem erase_le (i : Nat) (fs : List Rd) (c N : Nat) : Le7 fs (fs.eraseIdx i) c N :=
  ⟨by have := List.length_eraseIdx_le fs i; omega, by have := sum_erase_le fs i; omega, fun h x hx => h x (List.mem_of_mem_eraseIdx hx), fun h x hx => h x (List.mem_of_mem_eraseIdx hx)⟩
theorem drop_le (t : ByteArray) (fs : List Rd) : (dropM t fs).length ≤ fs.length ∧ sumM (dropM t fs) ≤ sumM fs ∧ ∀ x ∈ dropM t fs, x ∈ fs := by
  unfold dropM
  cases findM t fs with
  | none => exact ⟨Nat.le_refl _, Nat.le_refl _, fun _ h => h⟩
  | some j => exact ⟨List.length_eraseIdx_le fs j, sum_erase_le fs j, fun x hx => List.mem_of_mem_eraseIdx hx⟩
theorem ren_le (s t : ByteArray) (fs : List Rd) (c N : Nat) (ht : t.size ≤ N) : Le7 fs (renM s t fs) c N := by
  unfold renM
  cases findM s fs with
  | none => exact Le7.refl _ _ _
  | some i =>
    cases h : fs[i]? with
    | none => simp only [h]; exact Le7.refl _ _ _
    | some p =>
      simp only [h]
      obtain ⟨d1, d2, d3⟩ := drop_le t (fs.eraseIdx i)
      have e1 := sum_erase h
      have e2 := List.length_eraseIdx_le fs i
      have hm := List.mem_of_getElem? h
      refine ⟨by rw [len_ins]; omega, by rw [sum_ins]; simp only; omega, fun hn x hx => ?_, fun hs x hx => ?_⟩
      · rcases mem_ins _ _ _ hx with e | hx
        · subst e
          exact ht
        · exact hn x (List.mem_of_mem_eraseIdx (d3 x hx))
      · rcases mem_ins _ _ _ hx with e | hx
        · subst e
          exact hs p hm
        · exact hs x (List.mem_of_mem_eraseIdx (d3 x hx))
theorem app_le (s : ByteArray) (b : List Int) (fs : List Rd) (N : Nat) (hs : s.size ≤ N) : Le7 fs (appM s b (if findM s fs = none then insM (s, [], 0) fs else fs)) b.length N := by
  have key : ∀ gs : List Rd, Le7 gs (appM s b gs) b.length N ∧ (appM s b gs).length = gs.length := fun gs => by
    unfold appM
    cases findM s gs with
    | none => exact ⟨Le7.refl _ _ _, rfl⟩
    | some i =>
      cases h : gs[i]? with
      | none => simp only [h]; exact ⟨Le7.refl _ _ _, trivial⟩
      | some p =>
        simp only [h]
        refine ⟨set_le h rfl (by simp) (fun h => ?_), by rw [List.length_set]⟩
        simp only [List.length_append] at h ⊢
        omega
  by_cases h0 : findM s fs = none
  · rw [if_pos h0]
    obtain ⟨k1, k2⟩ := key (insM (s, [], 0) fs)
    have e1 := len_ins (s, [], 0) fs
    have e2 := sum_ins (s, [], 0) fs
    refine ⟨by rw [k2, e1]; omega, by have := k1.sum; rw [e2] at this; simpa using this, fun hn => k1.names (fun x hx => ?_), fun hn => k1.sane (fun x hx => ?_)⟩
    · rcases mem_ins _ _ _ hx with e | hx
      · subst e
        exact hs
      · exact hn x hx
    · rcases mem_ins _ _ _ hx with e | hx
      · subst e
        simp
      · exact hn x hx
  · rw [if_neg h0]
    exact (key fs).1

/-- What a call does that counts. -/
theorem does_ways (m : Vm) (e : Int) (f : List Rd → List Rd) : (e ≠ 0 ∧ m.does e f = (m, e)) ∨ (e = 0 ∧ m.left = 0 ∧ m.does e f = ({ m with down := true }, 20)) ∨ (e = 0 ∧ m.left ≠ 0 ∧ m.does e f = ({ m with left := if 0 < m.left then m.left - 1 else m.left, fs := f m.fs }, 0)) := by
  unfold Vm.does
  by_cases h : e = 0
  · subst h
    rw [if_neg (by simp)]
    unfold Vm.step
    by_cases h0 : m.left = 0
    · refine .inr (.inl ⟨rfl, h0, ?_⟩)
      rw [if_pos h0, if_pos (show (20 : Int) ≠ 0 by decide)]
    · refine .inr (.inr ⟨rfl, h0, ?_⟩)
      rw [if_neg h0]
      by_cases h1 : 0 < m.left
      · rw [if_pos h1, if_neg (by simp), if_pos h1]
      · rw [if_neg h1, if_neg (by simp), if_neg h1]
  · exact .inl ⟨h, by rw [if_pos h]⟩
theorem hinder_not {m : Vm} {names : List ByteArray} {s : ByteArray} (hd : m.down = false) : m.hinder names s = 0 ∨ m.hinder names s = 22 ∨ m.hinder names s = 23 := by
  unfold Vm.hinder readyE
  rw [hd]
  by_cases h : names.all okName = true
  · simp only [h]
    cases (findM s m.fs).isNone <;> simp
  · simp [h]

end Go.Proofs.Ytjacjafpeajhaaa
