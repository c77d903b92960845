/-
  Plain: numbers as few bytes, and back. Nothing of the program. Memory: bytes as they lie, a slice of a call's own, append, make, the bytes as a text. Memory: rows of the call's own, nil let in: of bytes, of slices; append onto them. Memory: slices that can be read, pieces of them; slices of slices. Memory: what is marked, and what stays.
-/
import Derived.Test.YtmgggddnfeojmaaGreatProg
import Derived.WalkKit
import Derived.WalkSpells
import Derived.WalkLawsBesides
import Derived.Handy
import Derived.Lib.Hide
import Derived.Deep.OwnRows
import Derived.Laws.AppendOwn
import Derived.Laws.MakeOwn
import Derived.Laws.BytesArg
import Derived.Laws.OwnMore
set_option linter.unusedSimpArgs false
set_option linter.unusedVariables false
namespace Go.Proofs.YtmgggddnfeojmaaGreat
/-- The form of a number: at most f + 1 bytes. -/
def digsF : Nat → Int → List Int
  | 0, v => [v]
  | f + 1, v => if v < 128 then [v] else (v % 128 + 128) :: digsF f (v / 128)
def digs (v : Int) : List Int := digsF 9 v
theorem digsF_low (f : Nat) (v : Int) (h : v < 128) : digsF f v = [v] := by cases f <;> simp [digsF, h]
theorem digsF_high (f : Nat) (v : Int) (h : ¬ v < 128) : digsF (f + 1) v = (v % 128 + 128) :: digsF f (v / 128) := by simp [digsF, h]
theorem digsF_len : ∀ (f : Nat) (v : Int), 1 ≤ (digsF f v).length ∧ (digsF f v).length ≤ f + 1
  | 0, v => by simp [digsF]
  | f + 1, v => by
    have := digsF_len f (v / 128)
    unfold digsF
    split <;> simp <;> omega
theorem digs_len (v : Int) : 1 ≤ (digs v).length ∧ (digs v).length ≤ 10 := digsF_len 9 v
/-- Bytes. -/
def Byt (L : List Int) : Prop := ∀ x ∈ L, 0 ≤ x ∧ x < 256
theorem Byt.nil : Byt [] := fun _ h => by cases h
theorem Byt.head {x : Int} {L : List Int} (h : Byt (x :: L)) : 0 ≤ x ∧ x < 256 := h x (by simp)
theorem Byt.tail {x : Int} {L : List Int} (h : Byt (x :: L)) : Byt L := fun y hy => h y (List.mem_cons_of_mem _ hy)
theorem Byt.cons {x : Int} {L : List Int} (h0 : 0 ≤ x) (h1 : x < 256) (h : Byt L) : Byt (x :: L) := fun y hy => by
  rcases List.mem_cons.1 hy with rfl | hy
  · exact ⟨h0, h1⟩
  · exact h y hy
theorem Byt.append {L M : List Int} (h : Byt L) (g : Byt M) : Byt (L ++ M) := fun x hx => by
  rcases List.mem_append.1 hx with hx | hx
  · exact h x hx
  · exact g x hx
theorem Byt.drop {L : List Int} (h : Byt L) (n : Nat) : Byt (L.drop n) := fun x hx => h x (List.mem_of_mem_drop hx)
theorem Byt.take {L : List Int} (h : Byt L) (n : Nat) : Byt (L.take n) := fun x hx => h x (List.mem_of_mem_take hx)
theorem Byt.one {x : Int} (h0 : 0 ≤ x) (h1 : x < 256) : Byt [x] := fun y hy => by
  obtain rfl := List.mem_singleton.1 hy
  exact ⟨h0, h1⟩
theorem digsF_byt : ∀ (f : Nat) (v : Int), 0 ≤ v → v < 128 ^ (f + 1) → Byt (digsF f v)
  | 0, v, h0, h1 => Byt.one h0 (by omega)
  | f + 1, v, h0, h1 => by
    by_cases h : v < 128
    · rw [digsF_low _ _ h]; exact Byt.one h0 (by omega)
    · rw [digsF_high _ _ h]
      refine Byt.append (L := [v % 128 + 128]) (Byt.one (by omega) (by omega)) (digsF_byt f (v / 128) (by omega) ?_)
      rw [Int.pow_succ] at h1
      generalize (128 : Int) ^ (f + 1) = P at *
      omega
theorem digs_byt (v : Int) (h0 : 0 ≤ v) (h1 : v ≤ 18446744073709551615) : Byt (digs v) := digsF_byt 9 v h0 (by omega)
/-- What is read from the i-th byte on: the number, how many bytes, the error. -/
def rd : Nat → Int → List Int → Int × Nat × Int
  | _, _, [] => (0, 0, 10)
  | i, a, c :: t =>
    if i = 9 ∧ 1 < c then (0, 0, 11)
    else if 128 ≤ c then rd (i + 1) (a + c % 128 * 128 ^ i) t
    else if c = 0 ∧ 0 < i then (0, 0, 11) else (a + c % 128 * 128 ^ i, i + 1, 0)
theorem split128 (v P : Int) : v % 128 * P + v / 128 * (P * 128) = v * P := by
  have h : v = v % 128 + v / 128 * 128 := by omega
  conv => rhs; rw [h, Int.add_mul]
  congr 1
  rw [Int.mul_assoc, Int.mul_comm 128 P]
/-- What was written is read back. -/
theorem rd_digs (R : List Int) : ∀ (f i : Nat) (a v : Int), i + f = 9 → 0 ≤ v → (0 < i → 0 < v) → (i = 9 → v ≤ 1) → v * 128 ^ i ≤ 18446744073709551615 →
    rd i a (digsF f v ++ R) = (a + v * 128 ^ i, i + (digsF f v).length, 0)
  | 0, i, a, v, hi, h0, h1, h9, _ => by
    obtain rfl : i = 9 := by omega
    have := h1 (by omega)
    have := h9 rfl
    obtain rfl : v = 1 := by omega
    rfl
  | f + 1, i, a, v, hi, h0, h1, h9, hb => by
    have n9 : i ≠ 9 := by omega
    by_cases h : v < 128
    · rw [digsF_low _ _ h]
      have n0 : ¬ (v = 0 ∧ 0 < i) := fun ⟨e, g⟩ => by have := h1 g; omega
      have nv : ¬ 128 ≤ v := by omega
      have em : v % 128 = v := by omega
      simp only [List.cons_append, List.nil_append]
      unfold rd
      rw [if_neg (by omega), if_neg nv, if_neg n0, em]
      rfl
    · rw [digsF_high _ _ h]
      have hs := split128 v (128 ^ i)
      have hp : (0 : Int) < 128 ^ i := Int.pow_pos (by omega)
      have em : (v % 128 + 128) % 128 = v % 128 := by omega
      have gv : 128 ≤ v % 128 + 128 := by omega
      have hq : v / 128 * 128 ^ (i + 1) ≤ 18446744073709551615 := by
        rw [Int.pow_succ]
        have : 0 ≤ v % 128 * 128 ^ i := Int.mul_nonneg (by omega) (by omega)
        omega
      have ih := rd_digs R f (i + 1) (a + v % 128 * 128 ^ i) (v / 128) (by omega) (by omega) (fun _ => by omega) (fun e => by
        obtain rfl : i = 8 := by omega
        have e9 : (128 : Int) ^ (8 + 1) = 9223372036854775808 := by decide
        rw [e9] at hq
        omega) hq
      rw [List.cons_append]
      unfold rd
      rw [if_neg (by omega), if_pos gv, em, ih]
      refine Prod.ext ?_ (Prod.ext ?_ rfl)
      · show a + v % 128 * 128 ^ i + v / 128 * 128 ^ (i + 1) = a + v * 128 ^ i
        rw [Int.pow_succ, Int.add_assoc, hs]
      · show i + 1 + _ = i + _
        simp only [List.length_cons]
        omega
theorem rd_back (v : Int) (R : List Int) (h0 : 0 ≤ v) (h1 : v ≤ 18446744073709551615) : rd 0 0 (digs v ++ R) = (v, (digs v).length, 0) := by
  have := rd_digs R 9 0 0 v rfl h0 (fun h => absurd h (by omega)) (fun h => absurd h (by omega)) (by simpa using h1)
  simpa [digs] using this
/-- Each number has one form. -/
theorem rd_one : ∀ (L : List Int) (i f : Nat) (a x : Int) (u : Nat), Byt L → i + f = 9 → rd i a L = (x, u, 0) →
    ∃ y, x = a + y * 128 ^ i ∧ 0 ≤ y ∧ (0 < i → 0 < y) ∧ i < u ∧ u - i ≤ L.length ∧ digsF f y = L.take (u - i)
  | [], i, f, a, x, u, _, _, h => by simp [rd] at h
  | c :: t, i, f, a, x, u, hB, hi, h => by
    have hc := hB c (by simp)
    have ht : Byt t := fun y hy => hB y (List.mem_cons_of_mem _ hy)
    unfold rd at h
    by_cases h9 : i = 9 ∧ 1 < c
    · rw [if_pos h9] at h; simp at h
    · rw [if_neg h9] at h
      by_cases hm : 128 ≤ c
      · rw [if_pos hm] at h
        obtain ⟨f', rfl⟩ : ∃ f', f = f' + 1 := ⟨f - 1, by omega⟩
        obtain ⟨y, e, y0, y1, iu, ul, ed⟩ := rd_one t (i + 1) f' _ x u ht (by omega) h
        have y1 := y1 (by omega)
        have hq : (y * 128 + c % 128) / 128 = y := by omega
        have hr : (y * 128 + c % 128) % 128 = c % 128 := by omega
        refine ⟨y * 128 + c % 128, ?_, by omega, fun _ => by omega, by omega, by simp; omega, ?_⟩
        · have hs := split128 (y * 128 + c % 128) (128 ^ i)
          rw [hq, hr] at hs
          rw [e, Int.pow_succ, Int.add_assoc, hs]
        · rw [digsF_high _ _ (by omega), hq, hr, ed, show u - i = u - (i + 1) + 1 by omega, List.take_succ_cons]
          congr 1
          omega
      · rw [if_neg hm] at h
        by_cases hz : c = 0 ∧ 0 < i
        · rw [if_pos hz] at h; simp at h
        · rw [if_neg hz] at h
          simp only [Prod.mk.injEq, and_true] at h
          obtain ⟨rfl, rfl⟩ := h
          have em : c % 128 = c := by omega
          refine ⟨c, by rw [em], hc.1, fun _ => by omega, by omega, by simp, ?_⟩
          rw [digsF_low _ _ (by omega), show i + 1 - i = 1 by omega]
          rfl
theorem rd_form (L : List Int) (x : Int) (u : Nat) (hB : Byt L) (h : rd 0 0 L = (x, u, 0)) : digs x = L.take u ∧ 0 < u ∧ u ≤ L.length := by
  obtain ⟨y, e, y0, _, iu, ul, ed⟩ := rd_one L 0 9 0 x u hB rfl h
  obtain rfl : x = y := by simpa using e
  exact ⟨ed, iu, by omega⟩
theorem pow_in (i : Nat) (h : i ≤ 9) : (1 : Int) ≤ 128 ^ i ∧ (128 : Int) ^ i ≤ 9223372036854775808 := by
  have : i = 0 ∨ i = 1 ∨ i = 2 ∨ i = 3 ∨ i = 4 ∨ i = 5 ∨ i = 6 ∨ i = 7 ∨ i = 8 ∨ i = 9 := by omega
  rcases this with rfl | rfl | rfl | rfl | rfl | rfl | rfl | rfl | rfl | rfl <;> decide
theorem rd_fits (d P a : Int) (d0 : 0 ≤ d) (d1 : d ≤ 127) (p1 : 1 ≤ P) (_a0 : 0 ≤ a) (a1 : a < P) : 0 ≤ d * P ∧ d * P ≤ 127 * P ∧ a + d * P < P * 128 := by
  have h0 : 0 ≤ d * P := Int.mul_nonneg d0 (by omega)
  have h1 : d * P ≤ 127 * P := Int.mul_le_mul_of_nonneg_right d1 (by omega)
  omega
/-- What is read fits. -/
theorem rd_bd : ∀ (L : List Int) (i : Nat) (a : Int), Byt L → i ≤ 9 → 0 ≤ a → a < 128 ^ i → 0 ≤ (rd i a L).1 ∧ (rd i a L).1 ≤ 18446744073709551615 ∧ (rd i a L).2.1 ≤ i + L.length ∧ ((rd i a L).2.2 = 0 → 0 < (rd i a L).2.1) ∧ ((rd i a L).2.2 ≠ 0 → (rd i a L).1 = 0 ∧ (rd i a L).2.1 = 0) ∧ 0 ≤ (rd i a L).2.2 ∧ (rd i a L).2.2 ≤ 11
  | [], i, a, _, _, _, _ => by simp [rd]
  | c :: t, i, a, hB, hi, a0, a1 => by
    have hc := hB c (by simp)
    have ht : Byt t := fun y hy => hB y (List.mem_cons_of_mem _ hy)
    obtain ⟨p0, p1⟩ := pow_in i hi
    unfold rd
    by_cases h9 : i = 9 ∧ 1 < c
    · rw [if_pos h9]; simp
    · rw [if_neg h9]
      obtain ⟨f0, f1, f2⟩ := rd_fits (c % 128) (128 ^ i) a (by omega) (by omega) p0 a0 a1
      by_cases hm : 128 ≤ c
      · rw [if_pos hm]
        have ih := rd_bd t (i + 1) (a + c % 128 * 128 ^ i) ht (by omega) (by omega) (by rw [Int.pow_succ]; exact f2)
        simp only [List.length_cons]
        omega
      · rw [if_neg hm]
        by_cases hz : c = 0 ∧ 0 < i
        · rw [if_pos hz]; simp
        · rw [if_neg hz]
          refine ⟨by show 0 ≤ a + _; omega, ?_, by simp only [List.length_cons]; omega, fun _ => Nat.succ_pos _, fun h => absurd rfl h, Int.le_refl _, by show (0 : Int) ≤ 11; decide⟩
          show a + c % 128 * 128 ^ i ≤ _
          by_cases e9 : i = 9
          · subst e9
            have e : (128 : Int) ^ 9 = 9223372036854775808 := by decide
            rw [e] at *
            omega
          · have : (128 : Int) ^ i * 128 ≤ 9223372036854775808 := by
              rw [← Int.pow_succ]
              exact (pow_in (i + 1) (by omega)).2
            omega
/-- What is read at a place: the number, the place behind it, the error. -/
def uintP (L : List Int) (at_ : Int) : Int × Int × Int :=
  if at_ < 0 ∨ (L.length : Int) < at_ then (0, 0, 2)
  else if (rd 0 0 (L.drop at_.toNat)).2.2 = 0 then ((rd 0 0 (L.drop at_.toNat)).1, at_ + ((rd 0 0 (L.drop at_.toNat)).2.1 : Int), 0) else (0, 0, (rd 0 0 (L.drop at_.toNat)).2.2)
def bytesP (L : List Int) (at_ most : Int) : List Int × Int × Int :=
  if (uintP L at_).2.2 ≠ 0 then ([], 0, (uintP L at_).2.2)
  else if most < 0 ∨ most < (uintP L at_).1 then ([], 0, 3)
  else if (L.length : Int) - (uintP L at_).2.1 < (uintP L at_).1 then ([], 0, 10)
  else ((L.drop (uintP L at_).2.1.toNat).take (uintP L at_).1.toNat, (uintP L at_).2.1 + (uintP L at_).1, 0)
theorem uintP_bd (L : List Int) (at_ : Int) (hB : Byt L) : 0 ≤ (uintP L at_).1 ∧ (uintP L at_).1 ≤ 18446744073709551615 ∧ ((uintP L at_).2.2 = 0 → 0 ≤ at_ ∧ at_ < (uintP L at_).2.1 ∧ (uintP L at_).2.1 ≤ L.length) ∧ ((uintP L at_).2.2 ≠ 0 → (uintP L at_).1 = 0 ∧ (uintP L at_).2.1 = 0) ∧ 0 ≤ (uintP L at_).2.2 ∧ (uintP L at_).2.2 ≤ 11 := by
  unfold uintP
  split
  · simp
  · next h =>
    have b := rd_bd (L.drop at_.toNat) 0 0 (hB.drop _) (by omega) (by omega) (by decide)
    have hl : (L.drop at_.toNat).length = L.length - at_.toNat := by simp
    rw [hl] at b
    split
    · next e =>
      refine ⟨b.1, b.2.1, fun _ => ?_, fun g => absurd rfl g, Int.le_refl _, by show (0 : Int) ≤ 11; decide⟩
      have := b.2.2.2.1 e
      show 0 ≤ at_ ∧ at_ < at_ + _ ∧ at_ + _ ≤ _
      omega
    · next e => exact ⟨Int.le_refl _, by show (0 : Int) ≤ _; decide, fun g => absurd g e, fun _ => ⟨rfl, rfl⟩, b.2.2.2.2.2⟩
/-- Behind what was there the number is read that was written. -/
theorem uintP_back (B R : List Int) (v : Int) (h0 : 0 ≤ v) (h1 : v ≤ 18446744073709551615) : uintP (B ++ (digs v ++ R)) B.length = (v, (B.length : Int) + (digs v).length, 0) := by
  unfold uintP
  rw [if_neg (by simp; omega)]
  have e : (B ++ (digs v ++ R)).drop ((B.length : Int).toNat) = digs v ++ R := by simp
  rw [e, rd_back v R h0 h1]
  simp
/-- What is read is written so. -/
theorem uintP_form (L : List Int) (at_ : Int) (hB : Byt L) (h : (uintP L at_).2.2 = 0) : L.take at_.toNat ++ digs (uintP L at_).1 = L.take (uintP L at_).2.1.toNat := by
  have b := uintP_bd L at_ hB
  have b3 := b.2.2.1 h
  unfold uintP at h b3 ⊢
  rw [if_neg (by omega)] at h b3 ⊢
  by_cases e : (rd 0 0 (L.drop at_.toNat)).2.2 = 0
  · rw [if_pos e] at b3 ⊢
    obtain ⟨f1, f2, f3⟩ := rd_form (L.drop at_.toNat) (rd 0 0 (L.drop at_.toNat)).1 (rd 0 0 (L.drop at_.toNat)).2.1 (hB.drop _) (Prod.ext rfl (Prod.ext rfl e))
    show L.take at_.toNat ++ digs _ = L.take (at_ + _).toNat
    rw [f1, show (at_ + ((rd 0 0 (L.drop at_.toNat)).2.1 : Int)).toNat = at_.toNat + (rd 0 0 (L.drop at_.toNat)).2.1 by omega, List.take_add]
  · rw [if_neg e] at h
    exact absurd h e
/-- Bytes in order: -1, 0, 1. -/
def cmpL : List Int → List Int → Int
  | [], [] => 0
  | [], _ :: _ => -1
  | _ :: _, [] => 1
  | x :: s, y :: t => if x < y then -1 else if y < x then 1 else cmpL s t
theorem cmpL_self : ∀ L, cmpL L L = 0
  | [] => rfl
  | x :: s => by unfold cmpL; rw [if_neg (by omega), if_neg (by omega)]; exact cmpL_self s
theorem cmpL_cons (x : Int) (s t : List Int) : cmpL (x :: s) (x :: t) = cmpL s t := by
  conv => lhs; unfold cmpL
  rw [if_neg (by omega), if_neg (by omega)]
theorem cmpL_lt (x y : Int) (s t : List Int) (h : x < y) : cmpL (x :: s) (y :: t) = -1 := by unfold cmpL; rw [if_pos h]
theorem cmpL_gt (x y : Int) (s t : List Int) (h : y < x) : cmpL (x :: s) (y :: t) = 1 := by unfold cmpL; rw [if_neg (by omega), if_pos h]
theorem cmpL_three : ∀ (s t : List Int), cmpL s t = -1 ∨ cmpL s t = 0 ∨ cmpL s t = 1
  | [], [] => .inr (.inl rfl)
  | [], _ :: _ => .inl rfl
  | _ :: _, [] => .inr (.inr rfl)
  | x :: s, y :: t => by
    unfold cmpL
    split
    · exact .inl rfl
    · split
      · exact .inr (.inr rfl)
      · exact cmpL_three s t
theorem cmpL_flip : ∀ (s t : List Int), cmpL t s = -cmpL s t
  | [], [] => rfl
  | [], _ :: _ => rfl
  | _ :: _, [] => rfl
  | x :: s, y :: t => by
    rcases Int.lt_trichotomy x y with h | rfl | h
    · rw [cmpL_lt _ _ _ _ h, cmpL_gt _ _ _ _ h]; rfl
    · rw [cmpL_cons, cmpL_cons]; exact cmpL_flip s t
    · rw [cmpL_gt _ _ _ _ h, cmpL_lt _ _ _ _ h]
theorem cmpL_eq : ∀ (s t : List Int), cmpL s t = 0 → s = t
  | [], [], _ => rfl
  | [], _ :: _, h => by simp [cmpL] at h
  | _ :: _, [], h => by simp [cmpL] at h
  | x :: s, y :: t, h => by
    rcases Int.lt_trichotomy x y with g | rfl | g
    · rw [cmpL_lt _ _ _ _ g] at h; simp at h
    · rw [cmpL_cons] at h; rw [cmpL_eq s t h]
    · rw [cmpL_gt _ _ _ _ g] at h; simp at h
/-- Behind bytes of one length the first ones decide, if they differ. -/
theorem cmpL_same : ∀ (s t u v : List Int), s.length = t.length → cmpL (s ++ u) (t ++ v) = if cmpL s t ≠ 0 then cmpL s t else cmpL u v
  | [], [], u, v, _ => by simp [cmpL]
  | [], _ :: _, _, _, h => by simp at h
  | _ :: _, [], _, _, h => by simp at h
  | x :: s, y :: t, u, v, h => by
    have hl : s.length = t.length := by simpa using h
    rcases Int.lt_trichotomy x y with g | rfl | g
    · rw [List.cons_append, List.cons_append, cmpL_lt _ _ _ _ g, cmpL_lt _ _ _ _ g]; rfl
    · rw [List.cons_append, List.cons_append, cmpL_cons, cmpL_cons]; exact cmpL_same s t u v hl
    · rw [List.cons_append, List.cons_append, cmpL_gt _ _ _ _ g, cmpL_gt _ _ _ _ g]; rfl
end Go.Proofs.YtmgggddnfeojmaaGreat
namespace Go.Proofs.YtmgggddnfeojmaaGreat
open Go.RowKit
def vals (L : List Int) : List Value := L.map (Value.int .u8)
theorem vals_len (L : List Int) : (vals L).length = L.length := by simp [vals]
theorem vals_get {L : List Int} {j : Nat} {u : Value} (h : (vals L)[j]? = some u) : ∃ x, L[j]? = some x ∧ u = .int .u8 x := by
  simp only [vals, List.getElem?_map, Option.map_eq_some_iff] at h
  obtain ⟨x, h1, h2⟩ := h
  exact ⟨x, h1, h2.symm⟩
theorem vals_of {L : List Int} {j : Nat} {x : Int} (h : L[j]? = some x) : (vals L)[j]? = some (.int .u8 x) := by simp [vals, h]
theorem vals_append (L M : List Int) : vals (L ++ M) = vals L ++ vals M := by simp [vals]
theorem vals_one {L : List Int} : ∀ u ∈ vals L, u.oneCell' = true := fun u hu => by
  obtain ⟨x, -, rfl⟩ := List.mem_map.1 hu
  rfl
theorem add_head (g i : Nat) : (⟨g, 0, none⟩ : Addr).add i = ⟨g, i, none⟩ := by
  unfold Addr.add
  split
  · next h => rw [h]
  · simp
theorem add_add (a : Addr) (m n : Nat) : (a.add m).add n = a.add (m + n) := by
  unfold Addr.add
  by_cases hm : m = 0
  · simp [hm]
  · by_cases hn : n = 0
    · simp [hn]
    · simp [hm, hn]; omega
theorem add_block (a : Addr) (n : Nat) : (a.add n).block = a.block := by
  unfold Addr.add
  split <;> rfl
/-- Bytes L, as they lie at an address. -/
def Bys (w : World) (A : Option Addr) (L : List Int) : Prop := L = [] ∨ ∃ ad, A = some ad ∧ ∀ j x, L[j]? = some x → w.cell? (ad.add j) = some (.int .u8 x)
theorem Bys.nil (w : World) (A : Option Addr) : Bys w A [] := .inl rfl
theorem Bys.kept {w w' : World} {A : Option Addr} {L : List Int} (h : Bys w A L) (hb : Below w.heap.size w w') : Bys w' A L := by
  rcases h with h | ⟨ad, h1, h2⟩
  · exact .inl h
  · refine .inr ⟨ad, h1, fun j x hx => ?_⟩
    have hc := h2 j x hx
    rw [hb.cell (World.block_lt_of_cell? w _ hc)]
    exact hc
theorem Bys.alloc {w : World} {A : Option Addr} {L : List Int} (h : Bys w A L) (o : Obj) : Bys (w.alloc o) A L := h.kept ((Below.refl _ _).alloc (Nat.le_refl _) o)
theorem Bys.part {w : World} {A : Option Addr} {L : List Int} (h : Bys w A L) (l k m : Nat) (hm : L.length ≤ m) : Bys w (if m = l then A else A.map (·.add l)) ((L.drop l).take k) := by
  by_cases e : m = l
  · left
    rw [List.drop_of_length_le (by omega)]
    simp
  · rcases h with rfl | ⟨ad, rfl, h2⟩
    · left; simp
    · refine .inr ⟨ad.add l, by simp [e], fun j x hx => ?_⟩
      rw [add_add]
      refine h2 (l + j) x ?_
      rw [List.getElem?_take] at hx
      split at hx
      · simpa using hx
      · cases hx
/-- A slice of the call's own, with bytes L. -/
def Mine (w : World) (B g c : Nat) (L : List Int) : Prop := w.ownsRow B 5 1 (.slice (some ⟨g, 0, none⟩) L.length c) L.length (vals L)
theorem Mine.raw {w : World} {B g c : Nat} {L : List Int} (h : Mine w B g c L) : ∃ cur, B ≤ g ∧ w.heap[g]? = some (.cells cur 5 (0, 0)) ∧ L.length ≤ c ∧ c ≤ maxLen ∧ cur.size = c ∧ cur.toList.take L.length = vals L := by
  obtain ⟨g', cap, cur, e, h1, h2, h3, h4, h5, h6⟩ := h.2.resolve_left (fun e => by cases e.1)
  injection e with e1 e2 e3
  injection e1 with e1
  injection e1 with e1
  subst e1
  subst e3
  exact ⟨cur, h1, h2, h3, h4, by omega, by simpa using h6⟩
theorem Mine.of {w : World} {B g c : Nat} {L : List Int} {cur : Array Value} (h1 : B ≤ g) (h2 : w.heap[g]? = some (.cells cur 5 (0, 0))) (h3 : L.length ≤ c) (h4 : c ≤ maxLen) (h5 : cur.size = c) (h6 : cur.toList.take L.length = vals L) : Mine w B g c L :=
  ⟨by rw [vals_len]; omega, .inr ⟨g, c, cur, rfl, h1, h2, h3, h4, by omega, by simpa using h6⟩⟩
theorem Mine.lt {w : World} {B g c : Nat} {L : List Int} (h : Mine w B g c L) : B ≤ g ∧ g < w.heap.size := by
  obtain ⟨cur, h1, h2, _⟩ := h.raw
  exact ⟨h1, (Array.getElem?_eq_some_iff.1 h2).1⟩
theorem Mine.cap {w : World} {B g c : Nat} {L : List Int} (h : Mine w B g c L) : L.length ≤ c ∧ c ≤ 9223372036854775807 := by
  obtain ⟨cur, _, _, h3, h4, _⟩ := h.raw
  unfold maxLen at h4
  omega
theorem Mine.cell {w : World} {B g c : Nat} {L : List Int} (h : Mine w B g c L) {j : Nat} {x : Int} (hx : L[j]? = some x) : w.cell? ⟨g, j, none⟩ = some (.int .u8 x) := by
  have := World.ownsRow.cells h (g := g) rfl j (.int .u8 x) (vals_of hx)
  rwa [add_head] at this
theorem Mine.bys {w : World} {B g c : Nat} {L : List Int} (h : Mine w B g c L) : Bys w (some ⟨g, 0, none⟩) L :=
  .inr ⟨_, rfl, fun j x hx => by rw [add_head]; exact h.cell hx⟩
theorem Mine.frozen {w : World} {B g c : Nat} {L : List Int} (h : Mine w B g c L) (j : Nat) : w.frozen? ⟨g, j, none⟩ = false := by
  obtain ⟨cur, _, h2, _⟩ := h.raw
  simp [World.frozen?, h2]
theorem Mine.of_block {w w' : World} {B g c : Nat} {L : List Int} (h : Mine w B g c L) (e : w'.heap[g]? = w.heap[g]?) : Mine w' B g c L := by
  obtain ⟨cur, h1, h2, h3, h4, h5, h6⟩ := h.raw
  exact Mine.of h1 (by rw [e, h2]) h3 h4 h5 h6
theorem Mine.kept {w w' : World} {B C g c : Nat} {L : List Int} (h : Mine w B g c L) (hb : Below C w w') (hC : w.heap.size ≤ C) : Mine w' B g c L :=
  h.of_block (hb.block g (Nat.lt_of_lt_of_le h.lt.2 hC))
theorem Mine.mono {w : World} {B C g c : Nat} {L : List Int} (h : Mine w B g c L) (hC : C ≤ B) : Mine w C g c L := by
  obtain ⟨cur, h1, h2, h3, h4, h5, h6⟩ := h.raw
  exact Mine.of (by omega) h2 h3 h4 h5 h6
theorem Mine.alloc {w : World} {B g c : Nat} {L : List Int} (h : Mine w B g c L) (o : Obj) : Mine (w.alloc o) B g c L := h.kept ((Below.refl _ _).alloc (Nat.le_refl _) o) (Nat.le_refl _)
/-- A row laid anew with its bytes. -/
theorem mine_new (w : World) (L : List Int) (cs : Array Value) (e : cs = (vals L).toArray) (hl : L.length ≤ maxLen) : Mine (w.alloc (.cells cs 5)) w.heap.size w.heap.size L.length L := by
  subst e
  exact Mine.of (Nat.le_refl _) (heap_alloc_new w _) (Nat.le_refl _) hl (by simp [vals_len]) (by rw [List.take_of_length_le (by simp [vals_len])])
theorem below_new (w : World) (o : Obj) : Below w.heap.size w (w.alloc o) := (Below.refl _ _).alloc (Nat.le_refl _) o
theorem below_then {w w1 w2 : World} (h : Below w.heap.size w w1) (k : Below w1.heap.size w1 w2) : Below w.heap.size w w2 := h.trans (k.mono h.size)
theorem info5 : (Tryz.prog.info? 5).map (fun i => (i.zero, i.size, i.bytes)) = some (some (.int .u8 0), 1, 1) := by kernel_rfl
/-- Where an append finds room, or a row that can be asked for. -/
def Room (n c m : Nat) : Prop := n + m ≤ c ∨ n + m ≤ 140737488355328 ∨ (c = 0 ∧ m ≤ 281474976710656)
theorem room_fits {n c m : Nat} (h : Room n c m) (hc : c < n + m) (hn : n ≤ c) : Builtin.nextslicecap (n + m) c ≤ 281474976710656 := by
  rcases h with h | h | ⟨rfl, h⟩
  · omega
  · have := growslice_fits (bytes := 1) hc (by omega)
    omega
  · rw [nextslicecap_zero (by omega)]
    omega
theorem run_append_mine (w : World) (ty : TypeId) (B g c : Nat) (L M : List Int) (A : Option Addr) (cm : Nat) (h : Mine w B g c L) (hm : Bys w A M) (hB : B ≤ w.heap.size) (hr : Room L.length c M.length) :
    ∃ g' c' w', (Builtin.append_ #[42, 42] ty #[.slice (some ⟨g, 0, none⟩) L.length c, .slice A M.length cm]).run Tryz.prog w = .ok (.slice (some ⟨g', 0, none⟩) (L.length + M.length) c') w' ∧
      Mine w' B g' c' (L ++ M) ∧ w.grownBy w' (some g) ∧ (L.length + M.length ≤ c → g' = g ∧ c' = c) := by
  obtain ⟨i, hi, hz0, hz1, hz2⟩ := info_parts info5
  obtain ⟨cur, h1, h2, h3, h4, h5, h6⟩ := h.raw
  have hlen : (vals L).length = L.length * i.size := by rw [hz1, vals_len]; omega
  have holds : ∀ j u, (vals L)[j]? = some u → w.cell? ((⟨g, 0, none⟩ : Addr).add j) = some u := World.ownsRow.cells h (g := g) rfl
  by_cases hroom : L.length + M.length ≤ c
  · rcases List.eq_nil_or_concat M with rfl | hne
    · refine ⟨g, c, w, ?_, by simpa using h, ⟨rfl, rfl, rfl, Nat.le_refl _, fun _ _ _ => rfl⟩, fun _ => ⟨rfl, rfl⟩⟩
      have : L.length + 0 ≤ c := hroom
      cases A <;> simp [Builtin.append_, run_underlying Tryz.underlying42, sizeOf, typeInfo, hi, Builtin.lenOf, Builtin.firstCells, loadCells, loadCellsFrom, storeCells, h3]
    · obtain ⟨ad, rfl, hc⟩ := hm.resolve_left (by rcases hne with ⟨_, _, rfl⟩; simp)
      have hnews : ∀ j u, (vals M)[j]? = some u → w.cell? (ad.add j) = some u := fun j u hu => by
        obtain ⟨x, e1, rfl⟩ := vals_get hu
        exact hc j x e1
      have hr := run_append_room (P := Tryz.prog) w 42 ty 5 i Tryz.underlying42 hi g L.length c cur h2 ad M.length cm (vals M) (by rw [hz1, vals_len]; omega) hnews vals_one hroom (by rw [hz1, vals_len, h5]; omega)
      rw [hz1, Nat.mul_one] at hr
      refine ⟨g, c, _, hr, Mine.of h1 (setRow_heap w g cur _ 5 _ h2) (by simpa using hroom) h4 ?_ ?_, ⟨rfl, rfl, rfl, by simp, fun k _ hk => setRow_other w g k _ (fun e => hk (by rw [e]))⟩, fun _ => ⟨rfl, rfl⟩⟩
      · simp only [List.size_toArray, List.length_append, List.length_take, List.length_drop, Array.length_toList, vals_len]
        omega
      · rw [vals_append, h6, List.length_append, ← vals_len L, ← vals_len M, ← List.length_append]
        exact List.take_left
  · have hne : M ≠ [] := fun e => by subst e; simp at hroom; omega
    obtain ⟨ad, rfl, hc⟩ := hm.resolve_left hne
    have hnews : ∀ j u, (vals M)[j]? = some u → w.cell? (ad.add j) = some u := fun j u hu => by
      obtain ⟨x, e1, rfl⟩ := vals_get hu
      exact hc j x e1
    have hfit := room_fits hr (by omega) h3
    have h64 : L.length + M.length ≤ 281474976710656 := by
      rcases hr with k | k | ⟨_, k⟩ <;> omega
    have hz : (Value.int .u8 0).cells.size = i.size := by rw [hz1]; rfl
    have hr := run_append_grow (P := Tryz.prog) w 42 ty 5 i (.int .u8 0) Tryz.underlying42 hi hz0 ⟨g, 0, none⟩ L.length c (vals L) hlen holds ad M.length cm (vals M) (by rw [hz1, vals_len]; omega) hnews (by omega) (by omega) (by rw [hz2]; omega)
    have hge := grownCap_ge w (L.length + M.length) c 5
    have hcm := grownCap_le_maxLen w (L.length + M.length) c 5 (by unfold maxLen; omega)
    refine ⟨_, _, _, hr, Mine.of hB (heap_alloc_new w.drew _) (by simpa using hge) hcm ?_ ?_, ⟨rfl, rfl, rfl, by simp, fun k hk _ => RowKit.Below.heap_alloc w.drew _ k hk⟩, fun e => absurd e hroom⟩
    · simp only [Array.size_append, List.size_toArray, size_zeroCells, vals_len]
      rw [hz, hz1]
      omega
    · simp only [Array.toList_append, List.append_assoc]
      rw [vals_append, ← List.append_assoc, List.length_append, ← vals_len L, ← vals_len M, ← List.length_append]
      exact List.take_left
theorem wpList_append_mine (w : World) {ops : Array Oper} {rest : List Oper} {o : Oper} {a : Act} {Q : Exit → Act → World → Prop} (hgd : o.guard = none) (s x : Operand)
    (ho : o.op = .call { callee := .builtin .append, args := #[s, x], argTypes := #[42, 42] })
    (B g c : Nat) (L M : List Int) (A : Option Addr) (n m cm : Nat) (hs : a.eval s = .slice (some ⟨g, 0, none⟩) n c) (hx : a.eval x = .slice A m cm) (en : L.length = n) (em : M.length = m) (h : Mine w B g c L) (hm : Bys w A M) (hB : B ≤ w.heap.size) (hr : Room L.length c M.length)
    (k : ∀ g' c' w', Mine w' B g' c' (L ++ M) → w.grownBy w' (some g) → (L.length + M.length ≤ c → g' = g ∧ c' = c) → wpList Tryz.prog ops Q rest (a.put o.dst (.slice (some ⟨g', 0, none⟩) (L ++ M).length c')) w') : wpList Tryz.prog ops Q (o :: rest) a w := by
  subst en
  subst em
  refine wpList_plain hgd fun K hK => ?_
  obtain ⟨g', c', w', r, h2, h3, h4⟩ := run_append_mine w o.type B g c L M A cm h hm hB hr
  have k' := k g' c' w' h2 h3 h4
  rw [List.length_append] at k'
  unfold Oper.wp execOp
  simp only [ho, resolve, invoke, builtin, Sem.run_bind, Sem.run_pure, Result.andThen_ok, List.map_toArray, List.map_cons, List.map_nil, hs, hx, r]
  exact hK _ _ k'
theorem wpList_make_mine (w : World) {ops : Array Oper} {rest : List Oper} {o : Oper} {a : Act} {Q : Exit → Act → World → Prop}
    (hg : o.guard = none) (l c : Operand) (hop : o.op = Op.makeSlice 42 l c) (n : Nat) (hl : a.eval l = .int .i64 0) (hc : a.eval c = .int .i64 (n : Int)) (hn : n ≤ 281474976710656)
    (k : ∀ w', Mine w' w.heap.size w.heap.size n [] → Below w.heap.size w w' → w'.heap.size = w.heap.size + 1 → wpList Tryz.prog ops Q rest (a.put o.dst (.slice (some ⟨w.heap.size, 0, none⟩) 0 n)) w') :
    wpList Tryz.prog ops Q (o :: rest) a w := by
  obtain ⟨i, hi, hz0, hz1, hz2⟩ := info_parts info5
  refine wpList_plain hg fun K hK' => ?_
  have hrun := run_make (P := Tryz.prog) w 42 5 i (.int .u8 0) Tryz.underlying42 hi hz0 .i64 .i64 0 (n : Int) (by omega) (by omega) (by rw [hz2]; omega) (by omega)
  have k' := k _ (Mine.of (Nat.le_refl _) (heap_alloc_new w (.cells (madeCells (Value.int .u8 0).cells ((n : Int).toNat * i.size)) 5)) (Nat.zero_le _) (by unfold maxLen; omega) (by rw [size_madeCells, hz1]; omega) (by simp [vals])) (below_new w _) (by simp)
  unfold Oper.wp
  simp only [Int.toNat_natCast, Int.toNat_zero] at hrun k'
  simp [execOp, hop, hl, hc, hrun, Result.andThen]
  exact hK' _ _ k'
/-- The bytes as a text. -/
theorem conv_any {w : World} {A : Option Addr} {L : List Int} (h : Bys w A L) (n c : Nat) (hn : L.length = n) : (convert 42 9 (.slice A n c)).run Tryz.prog w = .ok (.string (strOfNums L)) w := by
  subst hn
  rw [run_convert_bytes_string w _ _ 5 A _ c Tryz.underlying42 Tryz.underlying5 Tryz.underlying9]
  have key : ∀ ad : Addr, (∀ j x, L[j]? = some x → w.cell? (ad.add j) = some (.int .u8 x)) → (Conv.bytesToString (.slice (some ad) L.length c)).run Tryz.prog w = .ok (.string (strOfNums L)) w := fun ad hc => by
    have hl : (loadCells ad L.length).run Tryz.prog w = .ok (L.map (Value.int .u8)).toArray w := by
      have := run_loadCells_list (P := Tryz.prog) w ad (vals L) (fun j v hj => by
        obtain ⟨x, e1, rfl⟩ := vals_get hj
        exact hc j x e1)
      rwa [vals_len] at this
    rw [run_bytesToString w ad L.length c L hl, foldl_push_bytes]
    simp [strOfNums, ByteArray.empty, ByteArray.emptyWithCapacity]
    rfl
  rcases h with rfl | ⟨ad, rfl, hc⟩
  · cases A with
    | none => simp [Conv.bytesToString]; rfl
    | some ad => exact key ad (fun j x hx => by simp at hx)
  · exact key ad hc
end Go.Proofs.YtmgggddnfeojmaaGreat
namespace Go.Proofs.YtmgggddnfeojmaaGreat
open Go.RowKit
/-- Values, as they lie at an address. -/
def Lies (w : World) (C : Option Addr) (xs : List Value) : Prop := xs = [] ∨ ∃ ad, C = some ad ∧ ∀ j u, xs[j]? = some u → w.cell? (ad.add j) = some u
theorem Bys.lies {w : World} {A : Option Addr} {L : List Int} (h : Bys w A L) : Lies w A (vals L) := by
  rcases h with rfl | ⟨ad, rfl, h⟩
  · exact .inl rfl
  · refine .inr ⟨ad, rfl, fun j u hu => ?_⟩
    obtain ⟨x, hx, rfl⟩ := vals_get hu
    exact h j x hx
/-- An append, whatever the elements: the row is nil or the call's own, the source may be nil. -/
theorem run_append_grown {P : Program} (w : World) (t ty e : TypeId) (i : TypeInfo) (z : Value) (size bytes : Nat) (ht : P.underlying t = some (.slice e)) (hi : P.info? e = some i) (hz : i.zero = some z)
    (hsize : i.size = size) (hby : i.bytes = bytes) (hzs : z.cells.size = size) (hsz : 0 < size)
    (B : Nat) (A : Option Addr) (n c : Nat) (xs : List Value) (hown : w.ownsRow B e size (.slice A n c) n xs)
    (C : Option Addr) (m cm : Nat) (news : List Value) (hl : news.length = m * size) (hnews : Lies w C news) (h1 : ∀ u ∈ news, u.oneCell' = true)
    (h63 : n + m ≤ maxLen) (hbytes : (n + m) * bytes ≤ 140737488355328) (hB : B ≤ w.heap.size) :
    ∃ A' c' w', (Builtin.append_ #[t, t] ty #[.slice A n c, .slice C m cm]).run P w = .ok (.slice A' (n + m) c') w' ∧ w'.ownsRow B e size (.slice A' (n + m) c') (n + m) (xs ++ news) ∧ Below B w w' ∧ w.grownBy w' (Value.slice A n c).ownBlock := by
  have key : ∀ (v' : Value) (w' : World), w'.ownsRow B e size v' (n + m) (xs ++ news) → ∃ A' c', v' = .slice A' (n + m) c' := fun v' w' h => by
    rcases h.2 with ⟨rfl, he⟩ | ⟨g, cap, cur, rfl, _⟩
    · exact ⟨none, 0, by rw [he]⟩
    · exact ⟨_, _, rfl⟩
  by_cases hne : news = []
  · have hm : m = 0 := by
      subst hne
      simp only [List.length_nil] at hl
      rcases Nat.eq_zero_or_pos m with h | h
      · exact h
      · have := Nat.mul_pos h hsz
        omega
    subst hm
    subst hne
    refine ⟨A, c, w, ?_, by simpa using hown, Below.refl _ _, ⟨rfl, rfl, rfl, Nat.le_refl _, fun _ _ _ => rfl⟩⟩
    rcases hown.2 with ⟨h, _⟩ | ⟨g, cap, cur, h, _, _, hnc, _⟩
    · injection h with h2 h3 h4
      subst h2
      subst h3
      subst h4
      cases C <;> simp [Builtin.append_, run_underlying ht, sizeOf, typeInfo, hi, Builtin.lenOf, Builtin.firstCells, loadCells, loadCellsFrom]
    · injection h with h2 h3 h4
      subst h2
      subst h4
      cases C <;> simp [Builtin.append_, run_underlying ht, sizeOf, typeInfo, hi, Builtin.lenOf, Builtin.firstCells, loadCells, loadCellsFrom, storeCells, hnc]
  · obtain ⟨ad, rfl, hc⟩ := hnews.resolve_left hne
    obtain ⟨v', w', r, h2, h3, _⟩ := run_append_own (P := P) w B t ty e i z size bytes ht hi hz hsize hby hzs hsz _ n xs hown ad m cm news hl hc h1 h63 hbytes hB
    obtain ⟨A', c', rfl⟩ := key v' w' h2
    refine ⟨A', c', w', r, h2, (Below.refl B w).grown h3 hB fun k hk => (hown.lt k hk).1, h3⟩
theorem run_append_lies (w : World) (t ty e : TypeId) (i : TypeInfo) (z : Value) (size bytes : Nat) (ht : Tryz.prog.underlying t = some (.slice e)) (hi : Tryz.prog.info? e = some i) (hz : i.zero = some z)
    (hsize : i.size = size) (hby : i.bytes = bytes) (hzs : z.cells.size = size) (hsz : 0 < size)
    (B : Nat) (A : Option Addr) (n c : Nat) (xs : List Value) (hown : w.ownsRow B e size (.slice A n c) n xs)
    (C : Option Addr) (m cm : Nat) (news : List Value) (hl : news.length = m * size) (hnews : Lies w C news) (h1 : ∀ u ∈ news, u.oneCell' = true)
    (h63 : n + m ≤ maxLen) (hbytes : (n + m) * bytes ≤ 140737488355328) (hB : B ≤ w.heap.size) :
    ∃ A' c' w', (Builtin.append_ #[t, t] ty #[.slice A n c, .slice C m cm]).run Tryz.prog w = .ok (.slice A' (n + m) c') w' ∧ w'.ownsRow B e size (.slice A' (n + m) c') (n + m) (xs ++ news) ∧ Below B w w' := by
  obtain ⟨A', c', w', h1, h2, h3, -⟩ := run_append_grown w t ty e i z size bytes ht hi hz hsize hby hzs hsz B A n c xs hown C m cm news hl hnews h1 h63 hbytes hB
  exact ⟨A', c', w', h1, h2, h3⟩
/-- A row of bytes of the call's own, or nil. -/
def Row (w : World) (B : Nat) (A : Option Addr) (c : Nat) (L : List Int) : Prop := w.ownsRow B 5 1 (.slice A L.length c) L.length (vals L)
theorem Row.nil (w : World) (B : Nat) : Row w B none 0 [] := World.ownsRow_nil w B _ _
theorem Mine.row {w : World} {B g c : Nat} {L : List Int} (h : Mine w B g c L) : Row w B (some ⟨g, 0, none⟩) c L := h
theorem Row.lies {w : World} {B : Nat} {A : Option Addr} {c : Nat} {L : List Int} (h : Row w B A c L) : Bys w A L := by
  rcases h.2 with ⟨_, h⟩ | ⟨g, cap, cur, e, _⟩
  · exact .inl (List.eq_nil_of_length_eq_zero h)
  · injection e with e1 e2 e3
    subst e1
    refine .inr ⟨_, rfl, fun j x hx => World.ownsRow.cells h (g := g) rfl j _ (vals_of hx)⟩
theorem own_cap {w : World} {B : Nat} {e : TypeId} {size : Nat} {A : Option Addr} {n c : Nat} {xs : List Value} (h : w.ownsRow B e size (.slice A n c) n xs) : n ≤ c ∧ (c : Int) ≤ 9223372036854775807 := by
  rcases h.2 with ⟨e, _⟩ | ⟨g, cap, cur, e, h1, h2, h3, h4, _⟩
  · injection e with e1 e2 e3
    subst e2
    subst e3
    omega
  · injection e with e1 e2 e3
    subst e3
    unfold maxLen at h4
    omega
theorem own_kept {w w' : World} {B C : Nat} {e : TypeId} {size : Nat} {v : Value} {n : Nat} {xs : List Value} (h : w.ownsRow B e size v n xs) (hb : Below C w w') (hC : w.heap.size ≤ C) : w'.ownsRow B e size v n xs := by
  refine ⟨h.1, ?_⟩
  rcases h.2 with hn | ⟨g, cap, cur, e1, h1, h2, h3⟩
  · exact .inl hn
  · refine .inr ⟨g, cap, cur, e1, h1, ?_, h3⟩
    have hg : g < w.heap.size := (Array.getElem?_eq_some_iff.1 h2).1
    rw [hb.block g (by omega), h2]
theorem own_mono {w : World} {B C : Nat} {e : TypeId} {size : Nat} {v : Value} {n : Nat} {xs : List Value} (h : w.ownsRow B e size v n xs) (hC : C ≤ B) : w.ownsRow C e size v n xs := by
  refine ⟨h.1, ?_⟩
  rcases h.2 with hn | ⟨g, cap, cur, e1, h1, h2, h3⟩
  · exact .inl hn
  · exact .inr ⟨g, cap, cur, e1, by omega, h2, h3⟩
theorem Row.kept {w w' : World} {B C : Nat} {A : Option Addr} {c : Nat} {L : List Int} (h : Row w B A c L) (hb : Below C w w') (hC : w.heap.size ≤ C) : Row w' B A c L := own_kept h hb hC
theorem Row.mono {w : World} {B C : Nat} {A : Option Addr} {c : Nat} {L : List Int} (h : Row w B A c L) (hC : C ≤ B) : Row w C A c L := own_mono h hC
theorem Row.alloc {w : World} {B : Nat} {A : Option Addr} {c : Nat} {L : List Int} (h : Row w B A c L) (o : Obj) : Row (w.alloc o) B A c L := h.kept (below_new w o) (Nat.le_refl _)
theorem row_made (w : World) (B : Nat) (L : List Int) (cs : Array Value) (e : cs = (vals L).toArray) (hl : L.length ≤ 9) (hB : B ≤ w.heap.size) : Row (w.alloc (.cells cs 5)) B (some ⟨w.heap.size, 0, none⟩) L.length L :=
  ((mine_new w L cs e (by unfold maxLen; omega)).mono hB).row
theorem wpList_append_row (w : World) {ops : Array Oper} {rest : List Oper} {o : Oper} {a : Act} {Q : Exit → Act → World → Prop} (hgd : o.guard = none) (s x : Operand)
    (ho : o.op = .call { callee := .builtin .append, args := #[s, x], argTypes := #[42, 42] })
    (B : Nat) (A : Option Addr) (c : Nat) (L M : List Int) (C : Option Addr) (n m cm : Nat) (hs : a.eval s = .slice A n c) (hx : a.eval x = .slice C m cm) (en : L.length = n) (em : M.length = m) (h : Row w B A c L) (hm : Bys w C M) (hB : B ≤ w.heap.size) (hr : L.length + M.length ≤ 140737488355328)
    (k : ∀ A' c' w', Row w' B A' c' (L ++ M) → Below B w w' → wpList Tryz.prog ops Q rest (a.put o.dst (.slice A' (n + m) c')) w') : wpList Tryz.prog ops Q (o :: rest) a w := by
  subst en
  subst em
  obtain ⟨i, hi, hz0, hz1, hz2⟩ := info_parts info5
  refine wpList_plain hgd fun K hK => ?_
  obtain ⟨A', c', w', r, h2, h3⟩ := run_append_lies w 42 o.type 5 i (.int .u8 0) 1 1 Tryz.underlying42 hi hz0 hz1 hz2 rfl (by decide) B A L.length c (vals L) h C M.length cm (vals M) (by simp [vals_len]) hm.lies vals_one (by unfold maxLen; omega) (by omega) hB
  rw [← vals_append] at h2
  have k' := k A' c' w' (by unfold Row; rw [List.length_append]; exact h2) h3
  unfold Oper.wp execOp
  simp only [ho, resolve, invoke, builtin, Sem.run_bind, Sem.run_pure, Result.andThen_ok, List.map_toArray, List.map_cons, List.map_nil, hs, hx, r]
  exact hK _ _ k'
/-- A slice of bytes, as a value: its place, its room, its bytes. -/
structure Sl where
  a : Option Addr
  c : Nat
  l : List Int
def Sl.val (s : Sl) : Value := .slice s.a s.l.length s.c
def svals (T : List Sl) : List Value := T.map Sl.val
theorem svals_of {T : List Sl} {j : Nat} {s : Sl} (h : T[j]? = some s) : (svals T)[j]? = some s.val := by simp [svals, h]
def byts (T : List Sl) : List (List Int) := T.map Sl.l
theorem byts_len (T : List Sl) : (byts T).length = T.length := by simp [byts]
/-- A row of slices of the call's own, or nil. -/
def Srow (w : World) (B : Nat) (A : Option Addr) (c : Nat) (T : List Sl) : Prop := w.ownsRow B 42 1 (.slice A T.length c) T.length (svals T)
theorem Srow.nil (w : World) (B : Nat) : Srow w B none 0 [] := World.ownsRow_nil w B _ _
theorem Srow.lies {w : World} {B : Nat} {A : Option Addr} {c : Nat} {T : List Sl} (h : Srow w B A c T) : Lies w A (svals T) := by
  rcases h.2 with ⟨_, h⟩ | ⟨g, cap, cur, e, _⟩
  · exact .inl (by rw [List.eq_nil_of_length_eq_zero h]; rfl)
  · injection e with e1 e2 e3
    subst e1
    exact .inr ⟨_, rfl, fun j u hu => World.ownsRow.cells h (g := g) rfl j u hu⟩
theorem Srow.kept {w w' : World} {B C : Nat} {A : Option Addr} {c : Nat} {T : List Sl} (h : Srow w B A c T) (hb : Below C w w') (hC : w.heap.size ≤ C) : Srow w' B A c T := own_kept h hb hC
theorem Srow.mono {w : World} {B C : Nat} {A : Option Addr} {c : Nat} {T : List Sl} (h : Srow w B A c T) (hC : C ≤ B) : Srow w C A c T := own_mono h hC
theorem Srow.alloc {w : World} {B : Nat} {A : Option Addr} {c : Nat} {T : List Sl} (h : Srow w B A c T) (o : Obj) : Srow (w.alloc o) B A c T := h.kept (below_new w o) (Nat.le_refl _)
theorem Lies.kept {w w' : World} {A : Option Addr} {xs : List Value} (h : Lies w A xs) (hb : Below w.heap.size w w') : Lies w' A xs := by
  rcases h with h | ⟨ad, h1, h2⟩
  · exact .inl h
  · refine .inr ⟨ad, h1, fun j u hu => ?_⟩
    have hc := h2 j u hu
    rw [hb.cell (World.block_lt_of_cell? w _ hc)]
    exact hc
theorem lit_lies (w : World) (xs : List Value) (cs : Array Value) (e : cs = xs.toArray) (t : TypeId) : Lies (w.alloc (.cells cs t)) (some ⟨w.heap.size, 0, none⟩) xs := by
  subst e
  refine .inr ⟨_, rfl, fun j u hu => ?_⟩
  rw [add_head]
  have h := heap_alloc_new w (.cells xs.toArray t)
  unfold World.cell?
  simp only
  rw [h]
  simp [hu]
/-- What an append onto a row of slices lets be: rows of bytes. -/
theorem Row.beside {w w' : World} {B D : Nat} {A C : Option Addr} {c d : Nat} {L : List Int} {T : List Sl} (h : Row w B A c L) (hs : Srow w D C d T) (hg : w.grownBy w' (Value.slice C T.length d).ownBlock) : Row w' B A c L := by
  refine ⟨h.1, ?_⟩
  rcases h.2 with hn | ⟨g, cap, cur, e1, h1, h2, h3⟩
  · exact .inl hn
  · refine .inr ⟨g, cap, cur, e1, h1, ?_, h3⟩
    have hlt : g < w.heap.size := (Array.getElem?_eq_some_iff.1 h2).1
    rw [hg.block g hlt, h2]
    intro e
    rcases hs.2 with ⟨hn, _⟩ | ⟨g', cap', cur', e', _, h2', _⟩
    · rw [hn] at e
      simp [Value.ownBlock] at e
    · rw [e'] at e
      obtain rfl : g = g' := by simpa [Value.ownBlock] using e
      rw [h2] at h2'
      injection h2' with h2'
      injection h2' with _ h2'
      exact absurd h2' (by decide)
/-- A slice of bytes that has grown. -/
def Longer (w : World) (B : Nat) (L : List Int) (e : Ending) (w' : World) : Prop := ∃ A c, e = .returned (.slice A L.length c) ∧ Row w' B A c L ∧ Below B w w'
end Go.Proofs.YtmgggddnfeojmaaGreat
namespace Go.Proofs.YtmgggddnfeojmaaGreat
open Go.RowKit
theorem size8 (W : World) : (sizeOf (Tryz.prog.elem 42)).run Tryz.prog W = .ok 1 W := by
  have h : Tryz.prog.elem 42 = 5 := by kernel_rfl
  obtain ⟨i, hi, hz0, hz1, hz2⟩ := info_parts info5
  rw [h]
  simp [sizeOf, typeInfo, hi, hz1]
theorem under8 : Tryz.prog.underlying 42 = some (.slice (Tryz.prog.elem 42)) := by kernel_rfl
/-- b[a:] -/
theorem slice_low {w : World} {A : Option Addr} {L : List Int} (h : Bys w A L) (a k c : Nat) (hn : L.length = a + k) (hc : a + k ≤ c) :
    ∃ A', (∀ W, (Instr.slice 42 (.slice A (a + k) c) (some (.int .i64 (a : Int))) none none).run Tryz.prog W = .ok (.slice A' k (c - a)) W) ∧ Bys w A' (L.drop a) := by
  refine ⟨if c = a then A else A.map (·.add a), fun W => ?_, ?_⟩
  · rw [run_slice_l (P := Tryz.prog) W _ A (a + k) c under8 .i64 (a : Int) (by omega) (by omega), size8]
    simp [Result.andThen, sliced]
  · have := h.part a L.length c (by omega)
    rwa [List.take_of_length_le (by simp)] at this
/-- b[:k] -/
theorem slice_high {w : World} {A : Option Addr} {L : List Int} (h : Bys w A L) (n k c : Nat) (hn : L.length = n) (hk : k ≤ n) (hc : n ≤ c) :
    (∀ W, (Instr.slice 42 (.slice A n c) none (some (.int .i64 (k : Int))) none).run Tryz.prog W = .ok (.slice A k c) W) ∧ Bys w A (L.take k) := by
  refine ⟨fun W => ?_, ?_⟩
  · rw [run_slice_h (P := Tryz.prog) W _ A n c under8 .i64 (k : Int) (by omega) (by omega), size8]
    cases A <;> simp [Result.andThen, sliced, Addr.add]
  · rcases h with rfl | ⟨ad, rfl, h2⟩
    · left; simp
    · refine .inr ⟨ad, rfl, fun j x hx => h2 j x ?_⟩
      rw [List.getElem?_take] at hx
      split at hx
      · exact hx
      · cases hx
/-- b[a:a+k:a+k] -/
theorem slice_end {w : World} {A : Option Addr} {L : List Int} (h : Bys w A L) (n a k c : Nat) (hn : L.length = n) (hk : a + k ≤ n) (hc : n ≤ c) :
    ∃ A', (∀ W, (Instr.slice 42 (.slice A n c) (some (.int .i64 (a : Int))) (some (.int .i64 ((a : Int) + k))) (some (.int .i64 ((a : Int) + k)))).run Tryz.prog W = .ok (.slice A' k k) W) ∧ Bys w A' ((L.drop a).take k) := by
  refine ⟨if a + k = a then A else A.map (·.add a), fun W => ?_, ?_⟩
  · have e : ((a : Int) + k).toNat = a + k := by omega
    rw [run_slice_lhm (P := Tryz.prog) W _ A n c under8 .i64 .i64 .i64 (a : Int) ((a : Int) + k) ((a : Int) + k) (by omega) (by omega) (by omega) (by omega), size8, e]
    simp [Result.andThen, sliced]
  · by_cases hk0 : k = 0
    · left; simp [hk0]
    · have := h.part a k (n + a + 1) (by omega)
      rw [if_neg (by omega)] at this
      rw [if_neg (by omega)]
      exact this
/-- A slice that can be read: bytes, as they lie, its length and its room. -/
structure In (w : World) (A : Option Addr) (L : List Int) (n c : Nat) : Prop where
  len : L.length = n
  cap : n ≤ c
  top : (c : Int) ≤ 9223372036854775807
  bys : Bys w A L
  byt : Byt L
theorem In.kept {w w' : World} {A : Option Addr} {L : List Int} {n c : Nat} (h : In w A L n c) (hb : Below w.heap.size w w') : In w' A L n c := ⟨h.len, h.cap, h.top, h.bys.kept hb, h.byt⟩
theorem Row.in_ {w : World} {B c : Nat} {A : Option Addr} {L : List Int} (h : Row w B A c L) (hB : Byt L) : In w A L L.length c := ⟨rfl, (own_cap h).1, (own_cap h).2, h.lies, hB⟩
theorem Row.in_n {w : World} {B c n : Nat} {A : Option Addr} {L : List Int} (h : Row w B A c L) (hB : Byt L) (hn : L.length = n) : In w A L n c := by
  subst hn
  exact h.in_ hB
/-- Slices that can be read, each. -/
def AllIn (w : World) (T : List Sl) : Prop := ∀ s ∈ T, In w s.a s.l s.l.length s.c
theorem AllIn.kept {w w' : World} {T : List Sl} (h : AllIn w T) (hb : Below w.heap.size w w') : AllIn w' T := fun s hs => (h s hs).kept hb
theorem AllIn.nil (w : World) : AllIn w [] := fun _ h => by cases h
theorem AllIn.cons {w : World} {s : Sl} {T : List Sl} (h : In w s.a s.l s.l.length s.c) (k : AllIn w T) : AllIn w (s :: T) := fun x hx => by
  rcases List.mem_cons.1 hx with rfl | hx
  · exact h
  · exact k x hx
theorem AllIn.append {w : World} {S T : List Sl} (h : AllIn w S) (k : AllIn w T) : AllIn w (S ++ T) := fun x hx => by
  rcases List.mem_append.1 hx with hx | hx
  · exact h x hx
  · exact k x hx
theorem In.of_n {w : World} {A : Option Addr} {L : List Int} {n c : Nat} (h : In w A L n c) : In w A L L.length c := by
  obtain ⟨h1, h2, h3, h4, h5⟩ := h
  subst h1
  exact ⟨rfl, h2, h3, h4, h5⟩
/-- A slice in a slice of slices. -/
theorem lies_at {w : World} {A : Option Addr} {T : List Sl} {k : Nat} {s : Sl} (h : Lies w A (svals T)) (hs : T[k]? = some s) : ∃ ad, A = some ad ∧ w.cell? (ad.add k) = some (.slice s.a s.l.length s.c) := by
  have hv := svals_of hs
  rcases h with h | ⟨ad, rfl, h⟩
  · rw [h] at hv
    simp at hv
  · exact ⟨ad, rfl, h k _ hv⟩
theorem in_at {w : World} {A : Option Addr} {L : List Int} {n c k : Nat} {x : Int} (h : In w A L n c) (hx : L[k]? = some x) : ∃ ad, A = some ad ∧ w.cell? (ad.add k) = some (.int .u8 x) := by
  rcases h.bys with e | ⟨ad, rfl, hc⟩
  · rw [e] at hx
    simp at hx
  · exact ⟨ad, rfl, hc k _ hx⟩
end Go.Proofs.YtmgggddnfeojmaaGreat
namespace Go.Proofs.YtmgggddnfeojmaaGreat
open Go.RowKit
theorem Bys.left {w : World} {A : Option Addr} {L M : List Int} (h : Bys w A (L ++ M)) : Bys w A L := by
  rcases h with h | ⟨ad, rfl, h2⟩
  · exact .inl (List.append_eq_nil_iff.1 h).1
  · refine .inr ⟨ad, rfl, fun j u hj => h2 j u ?_⟩
    rw [List.getElem?_append_left (List.getElem?_eq_some_iff.1 hj).1]
    exact hj
/-- All is as it was in some blocks. -/
structure Kp (S : Nat → Prop) (w w' : World) : Prop where
  os : w'.os = w.os
  tape : w'.tape = w.tape
  output : w'.output = w.output
  size : w.heap.size ≤ w'.heap.size
  block : ∀ k, S k → w'.heap[k]? = w.heap[k]?
theorem Kp.refl (S : Nat → Prop) (w : World) : Kp S w w := ⟨rfl, rfl, rfl, Nat.le_refl _, fun _ _ => rfl⟩
theorem Kp.set {S : Nat → Prop} {w w' : World} (h : Kp S w w') (g i : Nat) (v : Value) (hg : ¬ S g) : Kp S w (w'.setCell ⟨g, i, none⟩ v) :=
  ⟨h.os, h.tape, h.output, by simpa using h.size, fun k hk => (Below.heap_setCell w' ⟨g, i, none⟩ v k (fun e => by have e' : k = g := e; subst e'; exact hg hk)).trans (h.block k hk)⟩
theorem Kp.below {S : Nat → Prop} {w w' : World} {B : Nat} (h : Kp S w w') (hB : ∀ k, k < B → S k) : Below B w w' := ⟨h.os, h.tape, h.output, h.size, fun k hk => h.block k (hB k hk)⟩
theorem own_kp {S : Nat → Prop} {w w' : World} {B : Nat} {e : TypeId} {size : Nat} {A : Option Addr} {n c : Nat} {xs : List Value} (h : w.ownsRow B e size (.slice A n c) n xs) (hk : Kp S w w') (hS : ∀ ad, A = some ad → S ad.block) : w'.ownsRow B e size (.slice A n c) n xs := by
  refine ⟨h.1, ?_⟩
  rcases h.2 with hn | ⟨g, cap, cur, e1, h1, h2, h3⟩
  · exact .inl hn
  · refine .inr ⟨g, cap, cur, e1, h1, ?_, h3⟩
    injection e1 with e1
    rw [hk.block g (hS _ e1), h2]
theorem own_in {w : World} {B : Nat} {e : TypeId} {size : Nat} {A : Option Addr} {n c : Nat} {xs : List Value} (h : w.ownsRow B e size (.slice A n c) n xs) : ∀ ad, A = some ad → B ≤ ad.block ∧ ad.block < w.heap.size := fun ad ha => by
  rcases h.2 with ⟨hn, _⟩ | ⟨g, cap, cur, e1, h1, h2, h3⟩
  · injection hn with hn
    rw [hn] at ha
    cases ha
  · injection e1 with e1
    rw [e1] at ha
    injection ha with ha
    subst ha
    exact ⟨h1, (Array.getElem?_eq_some_iff.1 h2).1⟩
/-- One place of a row of bytes. -/
theorem row_at {w : World} {B : Nat} {A : Option Addr} {c k : Nat} {L : List Int} (h : Row w B A c L) (hk : k < L.length) : ∃ g v, A = some ⟨g, 0, none⟩ ∧ L[k]? = some v ∧ w.cell? ⟨g, k, none⟩ = some (.int .u8 v) ∧ w.frozen? ⟨g, k, none⟩ = false ∧ ∀ u, Row (w.setCell ⟨g, k, none⟩ (.int .u8 u)) B A c (L.set k u) := by
  have h' := h
  rcases h.2 with ⟨_, h0⟩ | ⟨g, cap, cur, e, h1, _⟩
  · omega
  · injection e with e1 e2 e3
    subst e1
    subst e3
    unfold Row at h'
    refine ⟨g, L[k], rfl, List.getElem?_eq_getElem hk, ?_, h'.frozenAt _, fun u => ?_⟩
    · rw [h'.cellAt k (by omega)]
      simp [vals, hk]
    · have := (h'.stored k (.int .u8 u)).1
      unfold Row
      have e : (vals L).set k (.int .u8 u) = vals (L.set k u) := by simp [vals, List.map_set]
      rw [List.length_set, ← e]
      exact this
end Go.Proofs.YtmgggddnfeojmaaGreat
