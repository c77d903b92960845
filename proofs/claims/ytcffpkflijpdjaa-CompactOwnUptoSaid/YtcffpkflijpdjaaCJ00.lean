/-
  Plain: numbers as few bytes, and back. Nothing of the program. Plain: blocks: how pairs are packed, unpacked, looked for. Nothing of the program. Memory: bytes as they lie, a slice of a call's own, append, make, the bytes as a text. Memory: rows of the call's own, nil let in: of bytes, of slices; append onto them. Memory: slices that can be read, pieces of them; slices of slices. Memory: what is marked, and what stays. Memory: pairs as they lie, two cells each. Walks: bytes copied and compared; the form of a number. Walks: pieces joined; a number appended, by the program and by the document.
-/
import Derived.Test.YtcffpkflijpdjaaProg
import Derived.WalkKit
import Derived.WalkSpells
import Derived.WalkLawsBesides
import Derived.Handy
import Derived.Lib.Hide
import Derived.Deep.OwnRows
import Derived.Laws.AppendOwn
import Derived.Laws.MakeOwn
import Derived.Laws.BytesArg
import Derived.Laws.BitsAllLaws
import Derived.Laws.OwnMore
import Derived.Laws.Strings
import Derived.Deep.QuietTactic
import Derived.BigQuiet
import Derived.Deep.RegionLaw
import Derived.Deep.RegionHeld3
import Derived.Deep.RegionWith
import Derived.Lib.BufferMore
import Derived.Deep.CutRange
import Derived.Deep.Cut
import Derived.Deep.CutBlock
set_option linter.unusedSimpArgs false
set_option linter.unusedVariables false
namespace Go.Proofs.Ytcffpkflijpdjaa
/-- The form of a number: at most f + 1 bytes. -/
def digsF : Nat → Int → List Int
  | 0, v => [v]
  | f + 1, v => if v < 128 then [v] else (v % 128 + 128) :: digsF f (v / 128)
def digs (v : Int) : List Int := digsF 9 v
theorem digsF_low (f : Nat) (v : Int) (h : v < 128) : digsF f v = [v] := by cases f <;> simp [digsF, h]
theorem digsF_high (f : Nat) (v : Int) (h : ¬ v < 128) : digsF (f + 1) v = (v % 128 + 128) :: digsF f (v / 128) := by simp [digsF, h]
/-- Bytes. -/
def Byt (L : List Int) : Prop := ∀ x ∈ L, 0 ≤ x ∧ x < 256
theorem Byt.nil : Byt [] := fun _ h => by cases h
theorem Byt.head {x : Int} {L : List Int} (h : Byt (x :: L)) : 0 ≤ x ∧ x < 256 := h x (by simp)
theorem Byt.tail {x : Int} {L : List Int} (h : Byt (x :: L)) : Byt L := fun y hy => h y (List.mem_cons_of_mem _ hy)
theorem Byt.cons {x : Int} {L : List Int} (h0 : 0 ≤ x) (h1 : x < 256) (h : Byt L) : Byt (x :: L) := fun y hy => by
  rcases List.mem_cons.1 hy with rfl | hy
  · exact ⟨h0, h1⟩
  · exact h y hy
theorem Byt.append {L M : List Int} (h : Byt L) (g : Byt M) : Byt (L ++ M) := fun x hx => by
  rcases List.mem_append.1 hx with hx | hx
  · exact h x hx
  · exact g x hx
theorem Byt.drop {L : List Int} (h : Byt L) (n : Nat) : Byt (L.drop n) := fun x hx => h x (List.mem_of_mem_drop hx)
theorem Byt.take {L : List Int} (h : Byt L) (n : Nat) : Byt (L.take n) := fun x hx => h x (List.mem_of_mem_take hx)
theorem Byt.one {x : Int} (h0 : 0 ≤ x) (h1 : x < 256) : Byt [x] := fun y hy => by
  obtain rfl := List.mem_singleton.1 hy
  exact ⟨h0, h1⟩
/-- What is read from the i-th byte on: the number, how many bytes, the error. -/
def rd : Nat → Int → List Int → Int × Nat × Int
  | _, _, [] => (0, 0, 10)
  | i, a, c :: t =>
    if i = 9 ∧ 1 < c then (0, 0, 11)
    else if 128 ≤ c then rd (i + 1) (a + c % 128 * 128 ^ i) t
    else if c = 0 ∧ 0 < i then (0, 0, 11) else (a + c % 128 * 128 ^ i, i + 1, 0)
theorem split128 (v P : Int) : v % 128 * P + v / 128 * (P * 128) = v * P := by
  have h : v = v % 128 + v / 128 * 128 := by omega
  conv => rhs; rw [h, Int.add_mul]
  congr 1
  rw [Int.mul_assoc, Int.mul_comm 128 P]
/-- Each number has one form. -/
theorem rd_one : ∀ (L : List Int) (i f : Nat) (a x : Int) (u : Nat), Byt L → i + f = 9 → rd i a L = (x, u, 0) →
    ∃ y, x = a + y * 128 ^ i ∧ 0 ≤ y ∧ (0 < i → 0 < y) ∧ i < u ∧ u - i ≤ L.length ∧ digsF f y = L.take (u - i)
  | [], i, f, a, x, u, _, _, h => by simp [rd] at h
  | c :: t, i, f, a, x, u, hB, hi, h => by
    have hc := hB c (by simp)
    have ht : Byt t := fun y hy => hB y (List.mem_cons_of_mem _ hy)
    unfold rd at h
    by_cases h9 : i = 9 ∧ 1 < c
    · rw [if_pos h9] at h; simp at h
    · rw [if_neg h9] at h
      by_cases hm : 128 ≤ c
      · rw [if_pos hm] at h
        obtain ⟨f', rfl⟩ : ∃ f', f = f' + 1 := ⟨f - 1, by omega⟩
        obtain ⟨y, e, y0, y1, iu, ul, ed⟩ := rd_one t (i + 1) f' _ x u ht (by omega) h
        have y1 := y1 (by omega)
        have hq : (y * 128 + c % 128) / 128 = y := by omega
        have hr : (y * 128 + c % 128) % 128 = c % 128 := by omega
        refine ⟨y * 128 + c % 128, ?_, by omega, fun _ => by omega, by omega, by simp; omega, ?_⟩
        · have hs := split128 (y * 128 + c % 128) (128 ^ i)
          rw [hq, hr] at hs
          rw [e, Int.pow_succ, Int.add_assoc, hs]
        · rw [digsF_high _ _ (by omega), hq, hr, ed, show u - i = u - (i + 1) + 1 by omega, List.take_succ_cons]
          congr 1
          omega
      · rw [if_neg hm] at h
        by_cases hz : c = 0 ∧ 0 < i
        · rw [if_pos hz] at h; simp at h
        · rw [if_neg hz] at h
          simp only [Prod.mk.injEq, and_true] at h
          obtain ⟨rfl, rfl⟩ := h
          have em : c % 128 = c := by omega
          refine ⟨c, by rw [em], hc.1, fun _ => by omega, by omega, by simp, ?_⟩
          rw [digsF_low _ _ (by omega), show i + 1 - i = 1 by omega]
          rfl
theorem rd_form (L : List Int) (x : Int) (u : Nat) (hB : Byt L) (h : rd 0 0 L = (x, u, 0)) : digs x = L.take u ∧ 0 < u ∧ u ≤ L.length := by
  obtain ⟨y, e, y0, _, iu, ul, ed⟩ := rd_one L 0 9 0 x u hB rfl h
  obtain rfl : x = y := by simpa using e
  exact ⟨ed, iu, by omega⟩
theorem pow_in (i : Nat) (h : i ≤ 9) : (1 : Int) ≤ 128 ^ i ∧ (128 : Int) ^ i ≤ 9223372036854775808 := by
  have : i = 0 ∨ i = 1 ∨ i = 2 ∨ i = 3 ∨ i = 4 ∨ i = 5 ∨ i = 6 ∨ i = 7 ∨ i = 8 ∨ i = 9 := by omega
  rcases this with rfl | rfl | rfl | rfl | rfl | rfl | rfl | rfl | rfl | rfl <;> decide
theorem rd_fits (d P a : Int) (d0 : 0 ≤ d) (d1 : d ≤ 127) (p1 : 1 ≤ P) (_a0 : 0 ≤ a) (a1 : a < P) : 0 ≤ d * P ∧ d * P ≤ 127 * P ∧ a + d * P < P * 128 := by
  have h0 : 0 ≤ d * P := Int.mul_nonneg d0 (by omega)
  have h1 : d * P ≤ 127 * P := Int.mul_le_mul_of_nonneg_right d1 (by omega)
  omega
/-- What is read fits. -/
theorem rd_bd : ∀ (L : List Int) (i : Nat) (a : Int), Byt L → i ≤ 9 → 0 ≤ a → a < 128 ^ i → 0 ≤ (rd i a L).1 ∧ (rd i a L).1 ≤ 18446744073709551615 ∧ (rd i a L).2.1 ≤ i + L.length ∧ ((rd i a L).2.2 = 0 → 0 < (rd i a L).2.1) ∧ ((rd i a L).2.2 ≠ 0 → (rd i a L).1 = 0 ∧ (rd i a L).2.1 = 0) ∧ 0 ≤ (rd i a L).2.2 ∧ (rd i a L).2.2 ≤ 11
  | [], i, a, _, _, _, _ => by simp [rd]
  | c :: t, i, a, hB, hi, a0, a1 => by
    have hc := hB c (by simp)
    have ht : Byt t := fun y hy => hB y (List.mem_cons_of_mem _ hy)
    obtain ⟨p0, p1⟩ := pow_in i hi
    unfold rd
    by_cases h9 : i = 9 ∧ 1 < c
    · rw [if_pos h9]; simp
    · rw [if_neg h9]
      obtain ⟨f0, f1, f2⟩ := rd_fits (c % 128) (128 ^ i) a (by omega) (by omega) p0 a0 a1
      by_cases hm : 128 ≤ c
      · rw [if_pos hm]
        have ih := rd_bd t (i + 1) (a + c % 128 * 128 ^ i) ht (by omega) (by omega) (by rw [Int.pow_succ]; exact f2)
        simp only [List.length_cons]
        omega
      · rw [if_neg hm]
        by_cases hz : c = 0 ∧ 0 < i
        · rw [if_pos hz]; simp
        · rw [if_neg hz]
          refine ⟨by show 0 ≤ a + _; omega, ?_, by simp only [List.length_cons]; omega, fun _ => Nat.succ_pos _, fun h => absurd rfl h, Int.le_refl _, by show (0 : Int) ≤ 11; decide⟩
          show a + c % 128 * 128 ^ i ≤ _
          by_cases e9 : i = 9
          · subst e9
            have e : (128 : Int) ^ 9 = 9223372036854775808 := by decide
            rw [e] at *
            omega
          · have : (128 : Int) ^ i * 128 ≤ 9223372036854775808 := by
              rw [← Int.pow_succ]
              exact (pow_in (i + 1) (by omega)).2
            omega
/-- What is read at a place: the number, the place behind it, the error. -/
def uintP (L : List Int) (at_ : Int) : Int × Int × Int :=
  if at_ < 0 ∨ (L.length : Int) < at_ then (0, 0, 2)
  else if (rd 0 0 (L.drop at_.toNat)).2.2 = 0 then ((rd 0 0 (L.drop at_.toNat)).1, at_ + ((rd 0 0 (L.drop at_.toNat)).2.1 : Int), 0) else (0, 0, (rd 0 0 (L.drop at_.toNat)).2.2)
theorem uintP_bd (L : List Int) (at_ : Int) (hB : Byt L) : 0 ≤ (uintP L at_).1 ∧ (uintP L at_).1 ≤ 18446744073709551615 ∧ ((uintP L at_).2.2 = 0 → 0 ≤ at_ ∧ at_ < (uintP L at_).2.1 ∧ (uintP L at_).2.1 ≤ L.length) ∧ ((uintP L at_).2.2 ≠ 0 → (uintP L at_).1 = 0 ∧ (uintP L at_).2.1 = 0) ∧ 0 ≤ (uintP L at_).2.2 ∧ (uintP L at_).2.2 ≤ 11 := by
  unfold uintP
  split
  · simp
  · next h =>
    have b := rd_bd (L.drop at_.toNat) 0 0 (hB.drop _) (by omega) (by omega) (by decide)
    have hl : (L.drop at_.toNat).length = L.length - at_.toNat := by simp
    rw [hl] at b
    split
    · next e =>
      refine ⟨b.1, b.2.1, fun _ => ?_, fun g => absurd rfl g, Int.le_refl _, by show (0 : Int) ≤ 11; decide⟩
      have := b.2.2.2.1 e
      show 0 ≤ at_ ∧ at_ < at_ + _ ∧ at_ + _ ≤ _
      omega
    · next e => exact ⟨Int.le_refl _, by show (0 : Int) ≤ _; decide, fun g => absurd g e, fun _ => ⟨rfl, rfl⟩, b.2.2.2.2.2⟩
/-- What is read is written so. -/
theorem uintP_form (L : List Int) (at_ : Int) (hB : Byt L) (h : (uintP L at_).2.2 = 0) : L.take at_.toNat ++ digs (uintP L at_).1 = L.take (uintP L at_).2.1.toNat := by
  have b := uintP_bd L at_ hB
  have b3 := b.2.2.1 h
  unfold uintP at h b3 ⊢
  rw [if_neg (by omega)] at h b3 ⊢
  by_cases e : (rd 0 0 (L.drop at_.toNat)).2.2 = 0
  · rw [if_pos e] at b3 ⊢
    obtain ⟨f1, f2, f3⟩ := rd_form (L.drop at_.toNat) (rd 0 0 (L.drop at_.toNat)).1 (rd 0 0 (L.drop at_.toNat)).2.1 (hB.drop _) (Prod.ext rfl (Prod.ext rfl e))
    show L.take at_.toNat ++ digs _ = L.take (at_ + _).toNat
    rw [f1, show (at_ + ((rd 0 0 (L.drop at_.toNat)).2.1 : Int)).toNat = at_.toNat + (rd 0 0 (L.drop at_.toNat)).2.1 by omega, List.take_add]
  · rw [if_neg e] at h
    exact absurd h e
/-- Bytes in order: -1, 0, 1. -/
def cmpL : List Int → List Int → Int
  | [], [] => 0
  | [], _ :: _ => -1
  | _ :: _, [] => 1
  | x :: s, y :: t => if x < y then -1 else if y < x then 1 else cmpL s t
theorem cmpL_self : ∀ L, cmpL L L = 0
  | [] => rfl
  | x :: s => by unfold cmpL; rw [if_neg (by omega), if_neg (by omega)]; exact cmpL_self s
theorem cmpL_cons (x : Int) (s t : List Int) : cmpL (x :: s) (x :: t) = cmpL s t := by
  conv => lhs; unfold cmpL
  rw [if_neg (by omega), if_neg (by omega)]
theorem cmpL_lt (x y : Int) (s t : List Int) (h : x < y) : cmpL (x :: s) (y :: t) = -1 := by unfold cmpL; rw [if_pos h]
theorem cmpL_gt (x y : Int) (s t : List Int) (h : y < x) : cmpL (x :: s) (y :: t) = 1 := by unfold cmpL; rw [if_neg (by omega), if_pos h]
theorem cmpL_three : ∀ (s t : List Int), cmpL s t = -1 ∨ cmpL s t = 0 ∨ cmpL s t = 1
  | [], [] => .inr (.inl rfl)
  | [], _ :: _ => .inl rfl
  | _ :: _, [] => .inr (.inr rfl)
  | x :: s, y :: t => by
    unfold cmpL
    split
    · exact .inl rfl
    · split
      · exact .inr (.inr rfl)
      · exact cmpL_three s t
theorem cmpL_flip : ∀ (s t : List Int), cmpL t s = -cmpL s t
  | [], [] => rfl
  | [], _ :: _ => rfl
  | _ :: _, [] => rfl
  | x :: s, y :: t => by
    rcases Int.lt_trichotomy x y with h | rfl | h
    · rw [cmpL_lt _ _ _ _ h, cmpL_gt _ _ _ _ h]; rfl
    · rw [cmpL_cons, cmpL_cons]; exact cmpL_flip s t
    · rw [cmpL_gt _ _ _ _ h, cmpL_lt _ _ _ _ h]
theorem cmpL_eq : ∀ (s t : List Int), cmpL s t = 0 → s = t
  | [], [], _ => rfl
  | [], _ :: _, h => by simp [cmpL] at h
  | _ :: _, [], h => by simp [cmpL] at h
  | x :: s, y :: t, h => by
    rcases Int.lt_trichotomy x y with g | rfl | g
    · rw [cmpL_lt _ _ _ _ g] at h; simp at h
    · rw [cmpL_cons] at h; rw [cmpL_eq s t h]
    · rw [cmpL_gt _ _ _ _ g] at h; simp at h
/-- Behind bytes of one length the first ones decide, if they differ. -/
theorem cmpL_same : ∀ (s t u v : List Int), s.length = t.length → cmpL (s ++ u) (t ++ v) = if cmpL s t ≠ 0 then cmpL s t else cmpL u v
  | [], [], u, v, _ => by simp [cmpL]
  | [], _ :: _, _, _, h => by simp at h
  | _ :: _, [], _, _, h => by simp at h
  | x :: s, y :: t, u, v, h => by
    have hl : s.length = t.length := by simpa using h
    rcases Int.lt_trichotomy x y with g | rfl | g
    · rw [List.cons_append, List.cons_append, cmpL_lt _ _ _ _ g, cmpL_lt _ _ _ _ g]; rfl
    · rw [List.cons_append, List.cons_append, cmpL_cons, cmpL_cons]; exact cmpL_same s t u v hl
    · rw [List.cons_append, List.cons_append, cmpL_gt _ _ _ _ g, cmpL_gt _ _ _ _ g]; rfl
end Go.Proofs.Ytcffpkflijpdjaa
namespace Go.Proofs.Ytcffpkflijpdjaa
/-- How many bytes two begin alike. -/
def alike : List Int → List Int → Nat
  | x :: s, y :: t => if x = y then alike s t + 1 else 0
  | _, _ => 0
theorem alike_cons (x : Int) (s t : List Int) : alike (x :: s) (x :: t) = alike s t + 1 := by
  conv => lhs; unfold alike
  rw [if_pos rfl]
theorem alike_common : ∀ p s t : List Int, alike (p ++ s) (p ++ t) = p.length + alike s t
  | [], _, _ => by simp
  | x :: p, s, t => by
    rw [List.cons_append, List.cons_append, alike_cons, alike_common p s t, List.length_cons]
    omega
theorem cmpL_common (p s t : List Int) : cmpL (p ++ s) (p ++ t) = cmpL s t := by
  rw [cmpL_same p p s t rfl, cmpL_self]
  rfl
theorem cmpL_trans : ∀ a b c : List Int, cmpL a b = 1 → cmpL b c = 1 → cmpL a c = 1
  | [], [], _, h, _ => by simp [cmpL] at h
  | [], _ :: _, _, h, _ => by simp [cmpL] at h
  | _ :: _, _, [], _, _ => rfl
  | _ :: _, [], _ :: _, _, g => by simp [cmpL] at g
  | x :: a, y :: b, z :: c, h, g => by
    rcases Int.lt_trichotomy x y with k | rfl | k
    · rw [cmpL_lt _ _ _ _ k] at h; simp at h
    · rcases Int.lt_trichotomy x z with l | rfl | l
      · rw [cmpL_lt _ _ _ _ l] at g; simp at g
      · rw [cmpL_cons] at h g ⊢; exact cmpL_trans a b c h g
      · exact cmpL_gt _ _ _ _ l
    · rcases Int.lt_trichotomy y z with l | rfl | l
      · rw [cmpL_lt _ _ _ _ l] at g; simp at g
      · exact cmpL_gt _ _ _ _ k
      · exact cmpL_gt _ _ _ _ (by omega)
/-- A pair: its key, its value. -/
abbrev Pr := List Int × List Int
def PrB (p : Pr) : Prop := Byt p.1 ∧ Byt p.2
/-- The key of the last pair. -/
def lastK : List Int → List Pr → List Int
  | a, [] => a
  | _, p :: l => lastK p.1 l
/-- The form of a pair behind a key, and of pairs. -/
def formP (a : List Int) (p : Pr) : List Int := digs (alike p.1 a) ++ (digs ((p.1.length - alike p.1 a : Nat) : Int) ++ (digs p.2.length ++ (p.1.drop (alike p.1 a) ++ p.2)))
def flatP : List Int → List Pr → List Int
  | _, [] => []
  | a, p :: l => formP a p ++ flatP p.1 l
theorem flatP_snoc : ∀ (a : List Int) (l : List Pr) (p : Pr), flatP a (l ++ [p]) = flatP a l ++ formP (lastK a l) p
  | _, [], _ => by simp [flatP, lastK]
  | _, q :: l, p => by
    show formP _ q ++ flatP q.1 (l ++ [p]) = _
    rw [flatP_snoc q.1 l p, ← List.append_assoc]
    rfl
/-- Keys that rise, each above the one ahead. -/
def risesP : List Int → List Pr → Prop
  | _, [] => True
  | a, p :: l => cmpL p.1 a = 1 ∧ risesP p.1 l
theorem risesP_snoc : ∀ (a : List Int) (l : List Pr) (p : Pr), risesP a (l ++ [p]) ↔ risesP a l ∧ cmpL p.1 (lastK a l) = 1
  | _, [], _ => by simp [risesP, lastK]
  | _, q :: l, p => by
    show (_ ∧ risesP q.1 (l ++ [p])) ↔ _
    rw [risesP_snoc q.1 l p, ← and_assoc]
    rfl
def ShortP (p : Pr) : Prop := p.1.length ≤ 200 ∧ p.2.length ≤ 4096
instance (p : Pr) : Decidable (ShortP p) := inferInstanceAs (Decidable (_ ∧ _))
def FitP (l : List Pr) : Prop := l.length ≤ 4096 ∧ ∀ p ∈ l, ShortP p
/-- The three numbers that stand at a place: they, the place behind them, the error. -/
def numsP (L : List Int) (a : Int) : (Int × Int × Int) × Int × Int :=
  if (uintP L a).2.2 ≠ 0 then ((0, 0, 0), 0, (uintP L a).2.2)
  else if (uintP L (uintP L a).2.1).2.2 ≠ 0 then ((0, 0, 0), 0, (uintP L (uintP L a).2.1).2.2)
  else if (uintP L (uintP L (uintP L a).2.1).2.1).2.2 ≠ 0 then ((0, 0, 0), 0, (uintP L (uintP L (uintP L a).2.1).2.1).2.2)
  else (((uintP L a).1, (uintP L (uintP L a).2.1).1, (uintP L (uintP L (uintP L a).2.1).2.1).1), (uintP L (uintP L (uintP L a).2.1).2.1).2.1, 0)
/-- The pair whose numbers are x, y, z and whose bytes begin at s, behind a key. -/
def bodyP (L ahead : List Int) (x y z s : Int) : Pr × Int × Int :=
  if (ahead.length : Int) < x then (([], []), 0, 11)
  else if 200 - x < y ∨ 4096 < z then (([], []), 0, 3)
  else if (L.length : Int) - s < y + z then (([], []), 0, 10)
  else if cmpL ((L.drop s.toNat).take y.toNat) (ahead.drop x.toNat) ≠ 1 ∨ 0 < alike ((L.drop s.toNat).take y.toNat) (ahead.drop x.toNat) then (([], []), 0, 11)
  else ((ahead.take x.toNat ++ (L.drop s.toNat).take y.toNat, (L.drop (s + y).toNat).take z.toNat), s + y + z, 0)
/-- The pair that stands at a place behind a key: it, the place behind it, the error. -/
def oneP (L : List Int) (a : Nat) (ahead : List Int) : Pr × Int × Int :=
  if (numsP L a).2.2 ≠ 0 then (([], []), 0, (numsP L a).2.2) else bodyP L ahead (numsP L a).1.1 (numsP L a).1.2.1 (numsP L a).1.2.2 (numsP L a).2.1
theorem numsP_bd (L : List Int) (a : Int) (hB : Byt L) : 0 ≤ (numsP L a).2.2 ∧ (numsP L a).2.2 ≤ 11 ∧ ((numsP L a).2.2 = 0 → 0 ≤ a ∧ a + 3 ≤ (numsP L a).2.1 ∧ (numsP L a).2.1 ≤ L.length) ∧ (0 ≤ (numsP L a).1.1 ∧ (numsP L a).1.1 ≤ 18446744073709551615) ∧ (0 ≤ (numsP L a).1.2.1 ∧ (numsP L a).1.2.1 ≤ 18446744073709551615) ∧ 0 ≤ (numsP L a).1.2.2 ∧ (numsP L a).1.2.2 ≤ 18446744073709551615 := by
  have b0 := uintP_bd L a hB
  have b1 := uintP_bd L (uintP L a).2.1 hB
  have b2 := uintP_bd L (uintP L (uintP L a).2.1).2.1 hB
  unfold numsP
  split
  · exact ⟨by simp only; omega, by simp only; omega, fun e => by simp only at e; omega, by simp, by simp, by simp⟩
  · split
    · exact ⟨by simp only; omega, by simp only; omega, fun e => by simp only at e; omega, by simp, by simp, by simp⟩
    · split
      · exact ⟨by simp only; omega, by simp only; omega, fun e => by simp only at e; omega, by simp, by simp, by simp⟩
      · simp only
        omega
theorem bodyP_ok {L ahead : List Int} {x y z s : Int} (h : (bodyP L ahead x y z s).2.2 = 0) : x ≤ ahead.length ∧ y ≤ 200 - x ∧ z ≤ 4096 ∧ y + z ≤ L.length - s ∧ cmpL ((L.drop s.toNat).take y.toNat) (ahead.drop x.toNat) = 1 ∧ alike ((L.drop s.toNat).take y.toNat) (ahead.drop x.toNat) = 0 ∧
    bodyP L ahead x y z s = ((ahead.take x.toNat ++ (L.drop s.toNat).take y.toNat, (L.drop (s + y).toNat).take z.toNat), s + y + z, 0) := by
  unfold bodyP at h ⊢
  split at h
  · simp at h
  · split at h
    · simp at h
    · split at h
      · simp at h
      · split at h
        · simp at h
        · next h1 h2 h3 h4 =>
          rw [if_neg h1, if_neg h2, if_neg h3, if_neg h4]
          simp only [not_or, Int.not_lt, Decidable.not_not, Nat.not_lt, Nat.le_zero, ne_eq] at h2 h4
          exact ⟨by omega, by omega, by omega, by omega, h4.1, by omega, rfl⟩
/-- What a pair is that could be read. -/
theorem oneP_ok {L : List Int} {a : Nat} {ahead : List Int} (_hB : Byt L) (h : (oneP L a ahead).2.2 = 0) :
    (numsP L a).2.2 = 0 ∧ (bodyP L ahead (numsP L a).1.1 (numsP L a).1.2.1 (numsP L a).1.2.2 (numsP L a).2.1).2.2 = 0 ∧ oneP L a ahead = bodyP L ahead (numsP L a).1.1 (numsP L a).1.2.1 (numsP L a).1.2.2 (numsP L a).2.1 := by
  unfold oneP at h ⊢
  split at h
  · next g => exact absurd h g
  · next g =>
    rw [if_neg g]
    exact ⟨by simpa using g, h, rfl⟩
theorem oneP_step {L : List Int} {a : Nat} {ahead : List Int} (hB : Byt L) (h : (oneP L a ahead).2.2 = 0) :
    ∃ e : Nat, (oneP L a ahead).2.1 = e ∧ a + 3 ≤ e ∧ e ≤ L.length ∧ ShortP (oneP L a ahead).1 ∧ (Byt ahead → PrB (oneP L a ahead).1) ∧ cmpL (oneP L a ahead).1.1 ahead = 1 ∧ L.take e = L.take a ++ formP ahead (oneP L a ahead).1 := by
  obtain ⟨h1, h2, h3⟩ := oneP_ok hB h
  obtain ⟨-, -, n1, n2, n3, n4⟩ := numsP_bd L a hB
  obtain ⟨n10, n11, n12⟩ := n1 h1
  obtain ⟨b1, b2, b3, b4, b5, b6, b7⟩ := bodyP_ok h2
  have hn := h1
  unfold numsP at hn
  have b0 := uintP_bd L a hB
  split at hn
  · next g => exact absurd hn g
  · next g0 =>
    split at hn
    · next g => exact absurd hn g
    · next g1 =>
      split at hn
      · next g => exact absurd hn g
      · next g2 =>
        have f0 := uintP_form L a hB (by simpa using g0)
        have f1 := uintP_form L _ hB (by simpa using g1)
        have f2 := uintP_form L _ hB (by simpa using g2)
        have en : numsP L a = (((uintP L a).1, (uintP L (uintP L a).2.1).1, (uintP L (uintP L (uintP L a).2.1).2.1).1), (uintP L (uintP L (uintP L a).2.1).2.1).2.1, 0) := by
          unfold numsP
          rw [if_neg g0, if_neg g1, if_neg g2]
        rw [← f1, ← f0] at f2
        have ex : (uintP L a).1 = (numsP L a).1.1 := by rw [en]
        have ey : (uintP L (uintP L a).2.1).1 = (numsP L a).1.2.1 := by rw [en]
        have ez : (uintP L (uintP L (uintP L a).2.1).2.1).1 = (numsP L a).1.2.2 := by rw [en]
        have es : (uintP L (uintP L (uintP L a).2.1).2.1).2.1 = (numsP L a).2.1 := by rw [en]
        rw [ex, ey, ez, es] at f2
        rw [h3, b7]
        clear en ex ey ez es f0 f1 g0 g1 g2 h3 b7 hn b0 h h1 h2
        generalize (numsP L a).1.1 = x at *
        generalize (numsP L a).1.2.1 = y at *
        generalize (numsP L a).1.2.2 = z at *
        generalize (numsP L a).2.1 = s at *
        obtain ⟨X, rfl⟩ := Int.eq_ofNat_of_zero_le n2.1
        obtain ⟨Y, rfl⟩ := Int.eq_ofNat_of_zero_le n3.1
        obtain ⟨Z, rfl⟩ := Int.eq_ofNat_of_zero_le n4.1
        obtain ⟨S, rfl⟩ := Int.eq_ofNat_of_zero_le (a := s) (by omega)
        have e1 : ((S : Int) + Y).toNat = S + Y := by omega
        simp only [Int.toNat_natCast, e1] at *
        have hlen : ((L.drop S).take Y).length = Y := by rw [List.length_take, List.length_drop]; omega
        have hlz : ((L.drop (S + Y)).take Z).length = Z := by rw [List.length_take, List.length_drop]; omega
        have hal : alike (ahead.take X ++ (L.drop S).take Y) ahead = X := by
          conv => lhs; rw [← List.take_append_drop X ahead, List.take_append_of_le_length (by rw [List.length_take]; omega), List.take_take, Nat.min_self]
          rw [alike_common, b6, List.length_take]
          omega
        refine ⟨S + Y + Z, by omega, by omega, by omega, ⟨by simp only [List.length_append, hlen, List.length_take]; omega, by simp only [hlz]; omega⟩, fun hA => ⟨(hA.take _).append ((hB.drop _).take _), (hB.drop _).take _⟩, ?_, ?_⟩
        · conv => lhs; rw [← List.take_append_drop X ahead, List.take_append_of_le_length (by rw [List.length_take]; omega), List.take_take, Nat.min_self]
          rw [cmpL_common]
          exact b5
        · unfold formP
          simp only [hal, hlz]
          have e2 : (ahead.take X ++ (L.drop S).take Y).length - X = Y := by rw [List.length_append, hlen, List.length_take]; omega
          have e3 : (ahead.take X ++ (L.drop S).take Y).drop X = (L.drop S).take Y := List.drop_left' (by rw [List.length_take]; omega)
          rw [e2, e3, ← List.append_assoc, ← List.append_assoc, ← List.append_assoc, f2, ← List.append_assoc, ← List.take_add, List.take_add, ← List.take_add, List.take_add]
/-- What is read from a place on, behind pairs. -/
def readF (L : List Int) : Nat → Nat → List Pr → List Pr × Int
  | 0, _, _ => ([], -1)
  | f + 1, a, ps => if L.length ≤ a then (ps, 0) else if (oneP L a (lastK [] ps)).2.2 ≠ 0 then ([], (oneP L a (lastK [] ps)).2.2) else if 4096 ≤ ps.length then ([], 3) else readF L f (oneP L a (lastK [] ps)).2.1.toNat (ps ++ [(oneP L a (lastK [] ps)).1])
def readP (L : List Int) : List Pr × Int := readF L (L.length + 1) 0 []
/-- Where a reader stands that has read some pairs. -/
structure LeftB (L : List Int) (ps : List Pr) (a : Nat) : Prop where
  le : a ≤ L.length
  upTo : ∃ f, L.length < a + f ∧ readF L f a ps = readP L
  rise : risesP [] ps
  short : FitP ps
  byt : ∀ p ∈ ps, PrB p
  form : flatP [] ps = L.take a
  room : ps.length ≤ a
theorem lastK_byt : ∀ (a : List Int) (l : List Pr), Byt a → (∀ p ∈ l, PrB p) → Byt (lastK a l)
  | _, [], h, _ => h
  | _, p :: l, _, h => lastK_byt p.1 l (h p List.mem_cons_self).1 (fun q hq => h q (List.mem_cons_of_mem _ hq))
theorem LeftB.start (L : List Int) : LeftB L [] 0 := ⟨Nat.zero_le _, ⟨L.length + 1, by omega, rfl⟩, trivial, ⟨by simp, fun p hp => (List.not_mem_nil hp).elim⟩, fun p hp => (List.not_mem_nil hp).elim, by simp [flatP], by simp⟩
theorem LeftB.step {L : List Int} {ps : List Pr} {a : Nat} (h : LeftB L ps a) (hB : Byt L) (hl : a < L.length) (h0 : (oneP L a (lastK [] ps)).2.2 = 0) (hm : ps.length < 4096) :
    ∃ e : Nat, (oneP L a (lastK [] ps)).2.1 = e ∧ a + 3 ≤ e ∧ e ≤ L.length ∧ LeftB L (ps ++ [(oneP L a (lastK [] ps)).1]) e := by
  obtain ⟨f, hf, e⟩ := h.upTo
  obtain ⟨g, rfl⟩ : ∃ g, f = g + 1 := ⟨f - 1, by have := h.le; omega⟩
  obtain ⟨n, s1, s2, s3, s4, s5, s6, s7⟩ := oneP_step hB h0
  unfold readF at e
  rw [if_neg (by omega), if_neg (by simpa using h0), if_neg (by omega), s1] at e
  refine ⟨n, s1, s2, s3, s3, ⟨g, by omega, e⟩, (risesP_snoc _ _ _).2 ⟨h.rise, s6⟩, ⟨by rw [List.length_append]; simp only [List.length_singleton]; omega, fun p hp => ?_⟩, fun p hp => ?_, ?_, ?_⟩
  · rcases List.mem_append.1 hp with hp | hp
    · exact h.short.2 p hp
    · rw [List.mem_singleton] at hp; subst hp; exact s4
  · rcases List.mem_append.1 hp with hp | hp
    · exact h.byt p hp
    · rw [List.mem_singleton] at hp; subst hp; exact s5 (lastK_byt _ _ Byt.nil h.byt)
  · rw [flatP_snoc, h.form, s7]
  · rw [List.length_append]; have := h.room; simp only [List.length_singleton]; omega
end Go.Proofs.Ytcffpkflijpdjaa
namespace Go.Proofs.Ytcffpkflijpdjaa
open Go.RowKit
def vals (L : List Int) : List Value := L.map (Value.int .u8)
theorem vals_len (L : List Int) : (vals L).length = L.length := by simp [vals]
theorem vals_get {L : List Int} {j : Nat} {u : Value} (h : (vals L)[j]? = some u) : ∃ x, L[j]? = some x ∧ u = .int .u8 x := by
  simp only [vals, List.getElem?_map, Option.map_eq_some_iff] at h
  obtain ⟨x, h1, h2⟩ := h
  exact ⟨x, h1, h2.symm⟩
theorem vals_of {L : List Int} {j : Nat} {x : Int} (h : L[j]? = some x) : (vals L)[j]? = some (.int .u8 x) := by simp [vals, h]
theorem vals_append (L M : List Int) : vals (L ++ M) = vals L ++ vals M := by simp [vals]
theorem vals_one {L : List Int} : ∀ u ∈ vals L, u.oneCell' = true := fun u hu => by
  obtain ⟨x, -, rfl⟩ := List.mem_map.1 hu
  rfl
theorem add_head (g i : Nat) : (⟨g, 0, none⟩ : Addr).add i = ⟨g, i, none⟩ := by
  unfold Addr.add
  split
  · next h => rw [h]
  · simp
theorem add_add (a : Addr) (m n : Nat) : (a.add m).add n = a.add (m + n) := by
  unfold Addr.add
  by_cases hm : m = 0
  · simp [hm]
  · by_cases hn : n = 0
    · simp [hn]
    · simp [hm, hn]; omega
theorem add_block (a : Addr) (n : Nat) : (a.add n).block = a.block := by
  unfold Addr.add
  split <;> rfl
/-- Bytes L, as they lie at an address. -/
def Bys (w : World) (A : Option Addr) (L : List Int) : Prop := L = [] ∨ ∃ ad, A = some ad ∧ ∀ j x, L[j]? = some x → w.cell? (ad.add j) = some (.int .u8 x)
theorem Bys.nil (w : World) (A : Option Addr) : Bys w A [] := .inl rfl
theorem Bys.kept {w w' : World} {A : Option Addr} {L : List Int} (h : Bys w A L) (hb : Below w.heap.size w w') : Bys w' A L := by
  rcases h with h | ⟨ad, h1, h2⟩
  · exact .inl h
  · refine .inr ⟨ad, h1, fun j x hx => ?_⟩
    have hc := h2 j x hx
    rw [hb.cell (World.block_lt_of_cell? w _ hc)]
    exact hc
theorem Bys.alloc {w : World} {A : Option Addr} {L : List Int} (h : Bys w A L) (o : Obj) : Bys (w.alloc o) A L := h.kept ((Below.refl _ _).alloc (Nat.le_refl _) o)
theorem Bys.part {w : World} {A : Option Addr} {L : List Int} (h : Bys w A L) (l k m : Nat) (hm : L.length ≤ m) : Bys w (if m = l then A else A.map (·.add l)) ((L.drop l).take k) := by
  by_cases e : m = l
  · left
    rw [List.drop_of_length_le (by omega)]
    simp
  · rcases h with rfl | ⟨ad, rfl, h2⟩
    · left; simp
    · refine .inr ⟨ad.add l, by simp [e], fun j x hx => ?_⟩
      rw [add_add]
      refine h2 (l + j) x ?_
      rw [List.getElem?_take] at hx
      split at hx
      · simpa using hx
      · cases hx
/-- A slice of the call's own, with bytes L. -/
def Mine (w : World) (B g c : Nat) (L : List Int) : Prop := w.ownsRow B 5 1 (.slice (some ⟨g, 0, none⟩) L.length c) L.length (vals L)
theorem Mine.raw {w : World} {B g c : Nat} {L : List Int} (h : Mine w B g c L) : ∃ cur, B ≤ g ∧ w.heap[g]? = some (.cells cur 5 (0, 0)) ∧ L.length ≤ c ∧ c ≤ maxLen ∧ cur.size = c ∧ cur.toList.take L.length = vals L := by
  obtain ⟨g', cap, cur, e, h1, h2, h3, h4, h5, h6⟩ := h.2.resolve_left (fun e => by cases e.1)
  injection e with e1 e2 e3
  injection e1 with e1
  injection e1 with e1
  subst e1
  subst e3
  exact ⟨cur, h1, h2, h3, h4, by omega, by simpa using h6⟩
theorem Mine.of {w : World} {B g c : Nat} {L : List Int} {cur : Array Value} (h1 : B ≤ g) (h2 : w.heap[g]? = some (.cells cur 5 (0, 0))) (h3 : L.length ≤ c) (h4 : c ≤ maxLen) (h5 : cur.size = c) (h6 : cur.toList.take L.length = vals L) : Mine w B g c L :=
  ⟨by rw [vals_len]; omega, .inr ⟨g, c, cur, rfl, h1, h2, h3, h4, by omega, by simpa using h6⟩⟩
theorem Mine.lt {w : World} {B g c : Nat} {L : List Int} (h : Mine w B g c L) : B ≤ g ∧ g < w.heap.size := by
  obtain ⟨cur, h1, h2, _⟩ := h.raw
  exact ⟨h1, (Array.getElem?_eq_some_iff.1 h2).1⟩
theorem Mine.cap {w : World} {B g c : Nat} {L : List Int} (h : Mine w B g c L) : L.length ≤ c ∧ c ≤ 9223372036854775807 := by
  obtain ⟨cur, _, _, h3, h4, _⟩ := h.raw
  unfold maxLen at h4
  omega
theorem Mine.cell {w : World} {B g c : Nat} {L : List Int} (h : Mine w B g c L) {j : Nat} {x : Int} (hx : L[j]? = some x) : w.cell? ⟨g, j, none⟩ = some (.int .u8 x) := by
  have := World.ownsRow.cells h (g := g) rfl j (.int .u8 x) (vals_of hx)
  rwa [add_head] at this
theorem Mine.bys {w : World} {B g c : Nat} {L : List Int} (h : Mine w B g c L) : Bys w (some ⟨g, 0, none⟩) L :=
  .inr ⟨_, rfl, fun j x hx => by rw [add_head]; exact h.cell hx⟩
theorem Mine.of_block {w w' : World} {B g c : Nat} {L : List Int} (h : Mine w B g c L) (e : w'.heap[g]? = w.heap[g]?) : Mine w' B g c L := by
  obtain ⟨cur, h1, h2, h3, h4, h5, h6⟩ := h.raw
  exact Mine.of h1 (by rw [e, h2]) h3 h4 h5 h6
theorem Mine.kept {w w' : World} {B C g c : Nat} {L : List Int} (h : Mine w B g c L) (hb : Below C w w') (hC : w.heap.size ≤ C) : Mine w' B g c L :=
  h.of_block (hb.block g (Nat.lt_of_lt_of_le h.lt.2 hC))
theorem Mine.mono {w : World} {B C g c : Nat} {L : List Int} (h : Mine w B g c L) (hC : C ≤ B) : Mine w C g c L := by
  obtain ⟨cur, h1, h2, h3, h4, h5, h6⟩ := h.raw
  exact Mine.of (by omega) h2 h3 h4 h5 h6
theorem Mine.alloc {w : World} {B g c : Nat} {L : List Int} (h : Mine w B g c L) (o : Obj) : Mine (w.alloc o) B g c L := h.kept ((Below.refl _ _).alloc (Nat.le_refl _) o) (Nat.le_refl _)
/-- A row laid anew with its bytes. -/
theorem mine_new (w : World) (L : List Int) (cs : Array Value) (e : cs = (vals L).toArray) (hl : L.length ≤ maxLen) : Mine (w.alloc (.cells cs 5)) w.heap.size w.heap.size L.length L := by
  subst e
  exact Mine.of (Nat.le_refl _) (heap_alloc_new w _) (Nat.le_refl _) hl (by simp [vals_len]) (by rw [List.take_of_length_le (by simp [vals_len])])
theorem below_new (w : World) (o : Obj) : Below w.heap.size w (w.alloc o) := (Below.refl _ _).alloc (Nat.le_refl _) o
theorem below_then {w w1 w2 : World} (h : Below w.heap.size w w1) (k : Below w1.heap.size w1 w2) : Below w.heap.size w w2 := h.trans (k.mono h.size)
theorem info5 : (Try.prog.info? 5).map (fun i => (i.zero, i.size, i.bytes)) = some (some (.int .u8 0), 1, 1) := by kernel_rfl
/-- The bytes as a text. -/
theorem conv_any {w : World} {A : Option Addr} {L : List Int} (h : Bys w A L) (n c : Nat) (hn : L.length = n) : (convert 23 9 (.slice A n c)).run Try.prog w = .ok (.string (strOfNums L)) w := by
  subst hn
  rw [run_convert_bytes_string w _ _ 5 A _ c Try.underlying23 Try.underlying5 Try.underlying9]
  have key : ∀ ad : Addr, (∀ j x, L[j]? = some x → w.cell? (ad.add j) = some (.int .u8 x)) → (Conv.bytesToString (.slice (some ad) L.length c)).run Try.prog w = .ok (.string (strOfNums L)) w := fun ad hc => by
    have hl : (loadCells ad L.length).run Try.prog w = .ok (L.map (Value.int .u8)).toArray w := by
      have := run_loadCells_list (P := Try.prog) w ad (vals L) (fun j v hj => by
        obtain ⟨x, e1, rfl⟩ := vals_get hj
        exact hc j x e1)
      rwa [vals_len] at this
    rw [run_bytesToString w ad L.length c L hl, foldl_push_bytes]
    simp [strOfNums, ByteArray.empty, ByteArray.emptyWithCapacity]
    rfl
  rcases h with rfl | ⟨ad, rfl, hc⟩
  · cases A with
    | none => simp [Conv.bytesToString]; rfl
    | some ad => exact key ad (fun j x hx => by simp at hx)
  · exact key ad hc
end Go.Proofs.Ytcffpkflijpdjaa
namespace Go.Proofs.Ytcffpkflijpdjaa
open Go.RowKit
/-- Values, as they lie at an address. -/
def Lies (w : World) (C : Option Addr) (xs : List Value) : Prop := xs = [] ∨ ∃ ad, C = some ad ∧ ∀ j u, xs[j]? = some u → w.cell? (ad.add j) = some u
theorem Bys.lies {w : World} {A : Option Addr} {L : List Int} (h : Bys w A L) : Lies w A (vals L) := by
  rcases h with rfl | ⟨ad, rfl, h⟩
  · exact .inl rfl
  · refine .inr ⟨ad, rfl, fun j u hu => ?_⟩
    obtain ⟨x, hx, rfl⟩ := vals_get hu
    exact h j x hx
/-- An append, whatever the elements: the row is nil or the call's own, the source may be nil. -/
theorem run_append_grown {P : Program} (w : World) (t ty e : TypeId) (i : TypeInfo) (z : Value) (size bytes : Nat) (ht : P.underlying t = some (.slice e)) (hi : P.info? e = some i) (hz : i.zero = some z)
    (hsize : i.size = size) (hby : i.bytes = bytes) (hzs : z.cells.size = size) (hsz : 0 < size)
    (B : Nat) (A : Option Addr) (n c : Nat) (xs : List Value) (hown : w.ownsRow B e size (.slice A n c) n xs)
    (C : Option Addr) (m cm : Nat) (news : List Value) (hl : news.length = m * size) (hnews : Lies w C news) (h1 : ∀ u ∈ news, u.oneCell' = true)
    (h63 : n + m ≤ maxLen) (hbytes : (n + m) * bytes ≤ 140737488355328) (hB : B ≤ w.heap.size) :
    ∃ A' c' w', (Builtin.append_ #[t, t] ty #[.slice A n c, .slice C m cm]).run P w = .ok (.slice A' (n + m) c') w' ∧ w'.ownsRow B e size (.slice A' (n + m) c') (n + m) (xs ++ news) ∧ Below B w w' ∧ w.grownBy w' (Value.slice A n c).ownBlock := by
  have key : ∀ (v' : Value) (w' : World), w'.ownsRow B e size v' (n + m) (xs ++ news) → ∃ A' c', v' = .slice A' (n + m) c' := fun v' w' h => by
    rcases h.2 with ⟨rfl, he⟩ | ⟨g, cap, cur, rfl, _⟩
    · exact ⟨none, 0, by rw [he]⟩
    · exact ⟨_, _, rfl⟩
  by_cases hne : news = []
  · have hm : m = 0 := by
      subst hne
      simp only [List.length_nil] at hl
      rcases Nat.eq_zero_or_pos m with h | h
      · exact h
      · have := Nat.mul_pos h hsz
        omega
    subst hm
    subst hne
    refine ⟨A, c, w, ?_, by simpa using hown, Below.refl _ _, ⟨rfl, rfl, rfl, Nat.le_refl _, fun _ _ _ => rfl⟩⟩
    rcases hown.2 with ⟨h, _⟩ | ⟨g, cap, cur, h, _, _, hnc, _⟩
    · injection h with h2 h3 h4
      subst h2
      subst h3
      subst h4
      cases C <;> simp [Builtin.append_, run_underlying ht, sizeOf, typeInfo, hi, Builtin.lenOf, Builtin.firstCells, loadCells, loadCellsFrom]
    · injection h with h2 h3 h4
      subst h2
      subst h4
      cases C <;> simp [Builtin.append_, run_underlying ht, sizeOf, typeInfo, hi, Builtin.lenOf, Builtin.firstCells, loadCells, loadCellsFrom, storeCells, hnc]
  · obtain ⟨ad, rfl, hc⟩ := hnews.resolve_left hne
    obtain ⟨v', w', r, h2, h3, _⟩ := run_append_own (P := P) w B t ty e i z size bytes ht hi hz hsize hby hzs hsz _ n xs hown ad m cm news hl hc h1 h63 hbytes hB
    obtain ⟨A', c', rfl⟩ := key v' w' h2
    refine ⟨A', c', w', r, h2, (Below.refl B w).grown h3 hB fun k hk => (hown.lt k hk).1, h3⟩
theorem run_append_lies (w : World) (t ty e : TypeId) (i : TypeInfo) (z : Value) (size bytes : Nat) (ht : Try.prog.underlying t = some (.slice e)) (hi : Try.prog.info? e = some i) (hz : i.zero = some z)
    (hsize : i.size = size) (hby : i.bytes = bytes) (hzs : z.cells.size = size) (hsz : 0 < size)
    (B : Nat) (A : Option Addr) (n c : Nat) (xs : List Value) (hown : w.ownsRow B e size (.slice A n c) n xs)
    (C : Option Addr) (m cm : Nat) (news : List Value) (hl : news.length = m * size) (hnews : Lies w C news) (h1 : ∀ u ∈ news, u.oneCell' = true)
    (h63 : n + m ≤ maxLen) (hbytes : (n + m) * bytes ≤ 140737488355328) (hB : B ≤ w.heap.size) :
    ∃ A' c' w', (Builtin.append_ #[t, t] ty #[.slice A n c, .slice C m cm]).run Try.prog w = .ok (.slice A' (n + m) c') w' ∧ w'.ownsRow B e size (.slice A' (n + m) c') (n + m) (xs ++ news) ∧ Below B w w' := by
  obtain ⟨A', c', w', h1, h2, h3, -⟩ := run_append_grown w t ty e i z size bytes ht hi hz hsize hby hzs hsz B A n c xs hown C m cm news hl hnews h1 h63 hbytes hB
  exact ⟨A', c', w', h1, h2, h3⟩
/-- A row of bytes of the call's own, or nil. -/
def Row (w : World) (B : Nat) (A : Option Addr) (c : Nat) (L : List Int) : Prop := w.ownsRow B 5 1 (.slice A L.length c) L.length (vals L)
theorem Row.nil (w : World) (B : Nat) : Row w B none 0 [] := World.ownsRow_nil w B _ _
theorem Mine.row {w : World} {B g c : Nat} {L : List Int} (h : Mine w B g c L) : Row w B (some ⟨g, 0, none⟩) c L := h
theorem Row.lies {w : World} {B : Nat} {A : Option Addr} {c : Nat} {L : List Int} (h : Row w B A c L) : Bys w A L := by
  rcases h.2 with ⟨_, h⟩ | ⟨g, cap, cur, e, _⟩
  · exact .inl (List.eq_nil_of_length_eq_zero h)
  · injection e with e1 e2 e3
    subst e1
    refine .inr ⟨_, rfl, fun j x hx => World.ownsRow.cells h (g := g) rfl j _ (vals_of hx)⟩
theorem own_cap {w : World} {B : Nat} {e : TypeId} {size : Nat} {A : Option Addr} {n c : Nat} {xs : List Value} (h : w.ownsRow B e size (.slice A n c) n xs) : n ≤ c ∧ (c : Int) ≤ 9223372036854775807 := by
  rcases h.2 with ⟨e, _⟩ | ⟨g, cap, cur, e, h1, h2, h3, h4, _⟩
  · injection e with e1 e2 e3
    subst e2
    subst e3
    omega
  · injection e with e1 e2 e3
    subst e3
    unfold maxLen at h4
    omega
theorem own_kept {w w' : World} {B C : Nat} {e : TypeId} {size : Nat} {v : Value} {n : Nat} {xs : List Value} (h : w.ownsRow B e size v n xs) (hb : Below C w w') (hC : w.heap.size ≤ C) : w'.ownsRow B e size v n xs := by
  refine ⟨h.1, ?_⟩
  rcases h.2 with hn | ⟨g, cap, cur, e1, h1, h2, h3⟩
  · exact .inl hn
  · refine .inr ⟨g, cap, cur, e1, h1, ?_, h3⟩
    have hg : g < w.heap.size := (Array.getElem?_eq_some_iff.1 h2).1
    rw [hb.block g (by omega), h2]
theorem own_mono {w : World} {B C : Nat} {e : TypeId} {size : Nat} {v : Value} {n : Nat} {xs : List Value} (h : w.ownsRow B e size v n xs) (hC : C ≤ B) : w.ownsRow C e size v n xs := by
  refine ⟨h.1, ?_⟩
  rcases h.2 with hn | ⟨g, cap, cur, e1, h1, h2, h3⟩
  · exact .inl hn
  · exact .inr ⟨g, cap, cur, e1, by omega, h2, h3⟩
theorem Row.kept {w w' : World} {B C : Nat} {A : Option Addr} {c : Nat} {L : List Int} (h : Row w B A c L) (hb : Below C w w') (hC : w.heap.size ≤ C) : Row w' B A c L := own_kept h hb hC
theorem Row.mono {w : World} {B C : Nat} {A : Option Addr} {c : Nat} {L : List Int} (h : Row w B A c L) (hC : C ≤ B) : Row w C A c L := own_mono h hC
theorem Row.alloc {w : World} {B : Nat} {A : Option Addr} {c : Nat} {L : List Int} (h : Row w B A c L) (o : Obj) : Row (w.alloc o) B A c L := h.kept (below_new w o) (Nat.le_refl _)
theorem row_made (w : World) (B : Nat) (L : List Int) (cs : Array Value) (e : cs = (vals L).toArray) (hl : L.length ≤ 9) (hB : B ≤ w.heap.size) : Row (w.alloc (.cells cs 5)) B (some ⟨w.heap.size, 0, none⟩) L.length L :=
  ((mine_new w L cs e (by unfold maxLen; omega)).mono hB).row
theorem wpList_append_row (w : World) {ops : Array Oper} {rest : List Oper} {o : Oper} {a : Act} {Q : Exit → Act → World → Prop} (hgd : o.guard = none) (s x : Operand)
    (ho : o.op = .call { callee := .builtin .append, args := #[s, x], argTypes := #[23, 23] })
    (B : Nat) (A : Option Addr) (c : Nat) (L M : List Int) (C : Option Addr) (n m cm : Nat) (hs : a.eval s = .slice A n c) (hx : a.eval x = .slice C m cm) (en : L.length = n) (em : M.length = m) (h : Row w B A c L) (hm : Bys w C M) (hB : B ≤ w.heap.size) (hr : L.length + M.length ≤ 140737488355328)
    (k : ∀ A' c' w', Row w' B A' c' (L ++ M) → Below B w w' → wpList Try.prog ops Q rest (a.put o.dst (.slice A' (n + m) c')) w') : wpList Try.prog ops Q (o :: rest) a w := by
  subst en
  subst em
  obtain ⟨i, hi, hz0, hz1, hz2⟩ := info_parts info5
  refine wpList_plain hgd fun K hK => ?_
  obtain ⟨A', c', w', r, h2, h3⟩ := run_append_lies w 23 o.type 5 i (.int .u8 0) 1 1 Try.underlying23 hi hz0 hz1 hz2 rfl (by decide) B A L.length c (vals L) h C M.length cm (vals M) (by simp [vals_len]) hm.lies vals_one (by unfold maxLen; omega) (by omega) hB
  rw [← vals_append] at h2
  have k' := k A' c' w' (by unfold Row; rw [List.length_append]; exact h2) h3
  unfold Oper.wp execOp
  simp only [ho, resolve, invoke, builtin, Sem.run_bind, Sem.run_pure, Result.andThen_ok, List.map_toArray, List.map_cons, List.map_nil, hs, hx, r]
  exact hK _ _ k'
/-- A slice of bytes, as a value: its place, its room, its bytes. -/
structure Sl where
  a : Option Addr
  c : Nat
  l : List Int
def Sl.val (s : Sl) : Value := .slice s.a s.l.length s.c
def svals (T : List Sl) : List Value := T.map Sl.val
/-- A row of slices of the call's own, or nil. -/
def Srow (w : World) (B : Nat) (A : Option Addr) (c : Nat) (T : List Sl) : Prop := w.ownsRow B 23 1 (.slice A T.length c) T.length (svals T)
theorem Srow.nil (w : World) (B : Nat) : Srow w B none 0 [] := World.ownsRow_nil w B _ _
theorem Srow.lies {w : World} {B : Nat} {A : Option Addr} {c : Nat} {T : List Sl} (h : Srow w B A c T) : Lies w A (svals T) := by
  rcases h.2 with ⟨_, h⟩ | ⟨g, cap, cur, e, _⟩
  · exact .inl (by rw [List.eq_nil_of_length_eq_zero h]; rfl)
  · injection e with e1 e2 e3
    subst e1
    exact .inr ⟨_, rfl, fun j u hu => World.ownsRow.cells h (g := g) rfl j u hu⟩
theorem Srow.kept {w w' : World} {B C : Nat} {A : Option Addr} {c : Nat} {T : List Sl} (h : Srow w B A c T) (hb : Below C w w') (hC : w.heap.size ≤ C) : Srow w' B A c T := own_kept h hb hC
theorem Srow.mono {w : World} {B C : Nat} {A : Option Addr} {c : Nat} {T : List Sl} (h : Srow w B A c T) (hC : C ≤ B) : Srow w C A c T := own_mono h hC
theorem Srow.alloc {w : World} {B : Nat} {A : Option Addr} {c : Nat} {T : List Sl} (h : Srow w B A c T) (o : Obj) : Srow (w.alloc o) B A c T := h.kept (below_new w o) (Nat.le_refl _)
theorem Lies.kept {w w' : World} {A : Option Addr} {xs : List Value} (h : Lies w A xs) (hb : Below w.heap.size w w') : Lies w' A xs := by
  rcases h with h | ⟨ad, h1, h2⟩
  · exact .inl h
  · refine .inr ⟨ad, h1, fun j u hu => ?_⟩
    have hc := h2 j u hu
    rw [hb.cell (World.block_lt_of_cell? w _ hc)]
    exact hc
theorem lit_lies (w : World) (xs : List Value) (cs : Array Value) (e : cs = xs.toArray) (t : TypeId) : Lies (w.alloc (.cells cs t)) (some ⟨w.heap.size, 0, none⟩) xs := by
  subst e
  refine .inr ⟨_, rfl, fun j u hu => ?_⟩
  rw [add_head]
  have h := heap_alloc_new w (.cells xs.toArray t)
  unfold World.cell?
  simp only
  rw [h]
  simp [hu]
/-- What an append onto a row of slices lets be: rows of bytes. -/
theorem Row.beside {w w' : World} {B D : Nat} {A C : Option Addr} {c d : Nat} {L : List Int} {T : List Sl} (h : Row w B A c L) (hs : Srow w D C d T) (hg : w.grownBy w' (Value.slice C T.length d).ownBlock) : Row w' B A c L := by
  refine ⟨h.1, ?_⟩
  rcases h.2 with hn | ⟨g, cap, cur, e1, h1, h2, h3⟩
  · exact .inl hn
  · refine .inr ⟨g, cap, cur, e1, h1, ?_, h3⟩
    have hlt : g < w.heap.size := (Array.getElem?_eq_some_iff.1 h2).1
    rw [hg.block g hlt, h2]
    intro e
    rcases hs.2 with ⟨hn, _⟩ | ⟨g', cap', cur', e', _, h2', _⟩
    · rw [hn] at e
      simp [Value.ownBlock] at e
    · rw [e'] at e
      obtain rfl : g = g' := by simpa [Value.ownBlock] using e
      rw [h2] at h2'
      injection h2' with h2'
      injection h2' with _ h2'
      exact absurd h2' (by decide)
/-- A slice of bytes that has grown. -/
def Longer (w : World) (B : Nat) (L : List Int) (e : Ending) (w' : World) : Prop := ∃ A c, e = .returned (.slice A L.length c) ∧ Row w' B A c L ∧ Below B w w'
end Go.Proofs.Ytcffpkflijpdjaa
namespace Go.Proofs.Ytcffpkflijpdjaa
open Go.RowKit
theorem size8 (W : World) : (sizeOf (Try.prog.elem 23)).run Try.prog W = .ok 1 W := by
  have h : Try.prog.elem 23 = 5 := by kernel_rfl
  obtain ⟨i, hi, hz0, hz1, hz2⟩ := info_parts info5
  rw [h]
  simp [sizeOf, typeInfo, hi, hz1]
theorem under8 : Try.prog.underlying 23 = some (.slice (Try.prog.elem 23)) := by kernel_rfl
/-- b[a:] -/
theorem slice_low {w : World} {A : Option Addr} {L : List Int} (h : Bys w A L) (a k c : Nat) (hn : L.length = a + k) (hc : a + k ≤ c) :
    ∃ A', (∀ W, (Instr.slice 23 (.slice A (a + k) c) (some (.int .i64 (a : Int))) none none).run Try.prog W = .ok (.slice A' k (c - a)) W) ∧ Bys w A' (L.drop a) := by
  refine ⟨if c = a then A else A.map (·.add a), fun W => ?_, ?_⟩
  · rw [run_slice_l (P := Try.prog) W _ A (a + k) c under8 .i64 (a : Int) (by omega) (by omega), size8]
    simp [Result.andThen, sliced]
  · have := h.part a L.length c (by omega)
    rwa [List.take_of_length_le (by simp)] at this
/-- A slice that can be read: bytes, as they lie, its length and its room. -/
structure In (w : World) (A : Option Addr) (L : List Int) (n c : Nat) : Prop where
  len : L.length = n
  cap : n ≤ c
  top : (c : Int) ≤ 9223372036854775807
  bys : Bys w A L
  byt : Byt L
theorem In.kept {w w' : World} {A : Option Addr} {L : List Int} {n c : Nat} (h : In w A L n c) (hb : Below w.heap.size w w') : In w' A L n c := ⟨h.len, h.cap, h.top, h.bys.kept hb, h.byt⟩
theorem Row.in_ {w : World} {B c : Nat} {A : Option Addr} {L : List Int} (h : Row w B A c L) (hB : Byt L) : In w A L L.length c := ⟨rfl, (own_cap h).1, (own_cap h).2, h.lies, hB⟩
/-- Slices that can be read, each. -/
def AllIn (w : World) (T : List Sl) : Prop := ∀ s ∈ T, In w s.a s.l s.l.length s.c
theorem AllIn.kept {w w' : World} {T : List Sl} (h : AllIn w T) (hb : Below w.heap.size w w') : AllIn w' T := fun s hs => (h s hs).kept hb
theorem AllIn.nil (w : World) : AllIn w [] := fun _ h => by cases h
theorem AllIn.cons {w : World} {s : Sl} {T : List Sl} (h : In w s.a s.l s.l.length s.c) (k : AllIn w T) : AllIn w (s :: T) := fun x hx => by
  rcases List.mem_cons.1 hx with rfl | hx
  · exact h
  · exact k x hx
theorem AllIn.append {w : World} {S T : List Sl} (h : AllIn w S) (k : AllIn w T) : AllIn w (S ++ T) := fun x hx => by
  rcases List.mem_append.1 hx with hx | hx
  · exact h x hx
  · exact k x hx
theorem In.of_n {w : World} {A : Option Addr} {L : List Int} {n c : Nat} (h : In w A L n c) : In w A L L.length c := by
  obtain ⟨h1, h2, h3, h4, h5⟩ := h
  subst h1
  exact ⟨rfl, h2, h3, h4, h5⟩
end Go.Proofs.Ytcffpkflijpdjaa
namespace Go.Proofs.Ytcffpkflijpdjaa
open Go.RowKit
theorem Bys.left {w : World} {A : Option Addr} {L M : List Int} (h : Bys w A (L ++ M)) : Bys w A L := by
  rcases h with h | ⟨ad, rfl, h2⟩
  · exact .inl (List.append_eq_nil_iff.1 h).1
  · refine .inr ⟨ad, rfl, fun j u hj => h2 j u ?_⟩
    rw [List.getElem?_append_left (List.getElem?_eq_some_iff.1 hj).1]
    exact hj
/-- All is as it was in some blocks. -/
structure Kp (S : Nat → Prop) (w w' : World) : Prop where
  os : w'.os = w.os
  tape : w'.tape = w.tape
  output : w'.output = w.output
  size : w.heap.size ≤ w'.heap.size
  block : ∀ k, S k → w'.heap[k]? = w.heap[k]?
theorem Kp.refl (S : Nat → Prop) (w : World) : Kp S w w := ⟨rfl, rfl, rfl, Nat.le_refl _, fun _ _ => rfl⟩
theorem Kp.set {S : Nat → Prop} {w w' : World} (h : Kp S w w') (g i : Nat) (v : Value) (hg : ¬ S g) : Kp S w (w'.setCell ⟨g, i, none⟩ v) :=
  ⟨h.os, h.tape, h.output, by simpa using h.size, fun k hk => (Below.heap_setCell w' ⟨g, i, none⟩ v k (fun e => by have e' : k = g := e; subst e'; exact hg hk)).trans (h.block k hk)⟩
theorem Kp.below {S : Nat → Prop} {w w' : World} {B : Nat} (h : Kp S w w') (hB : ∀ k, k < B → S k) : Below B w w' := ⟨h.os, h.tape, h.output, h.size, fun k hk => h.block k (hB k hk)⟩
theorem own_kp {S : Nat → Prop} {w w' : World} {B : Nat} {e : TypeId} {size : Nat} {A : Option Addr} {n c : Nat} {xs : List Value} (h : w.ownsRow B e size (.slice A n c) n xs) (hk : Kp S w w') (hS : ∀ ad, A = some ad → S ad.block) : w'.ownsRow B e size (.slice A n c) n xs := by
  refine ⟨h.1, ?_⟩
  rcases h.2 with hn | ⟨g, cap, cur, e1, h1, h2, h3⟩
  · exact .inl hn
  · refine .inr ⟨g, cap, cur, e1, h1, ?_, h3⟩
    injection e1 with e1
    rw [hk.block g (hS _ e1), h2]
theorem own_in {w : World} {B : Nat} {e : TypeId} {size : Nat} {A : Option Addr} {n c : Nat} {xs : List Value} (h : w.ownsRow B e size (.slice A n c) n xs) : ∀ ad, A = some ad → B ≤ ad.block ∧ ad.block < w.heap.size := fun ad ha => by
  rcases h.2 with ⟨hn, _⟩ | ⟨g, cap, cur, e1, h1, h2, h3⟩
  · injection hn with hn
    rw [hn] at ha
    cases ha
  · injection e1 with e1
    rw [e1] at ha
    injection ha with ha
    subst ha
    exact ⟨h1, (Array.getElem?_eq_some_iff.1 h2).1⟩
end Go.Proofs.Ytcffpkflijpdjaa
namespace Go.Proofs.Ytcffpkflijpdjaa
open Go.RowKit
/-- A text's bytes as numbers. -/
def nums (s : ByteArray) : List Int := s.data.toList.map fun b => (b.toNat : Int)
theorem nums_len (s : ByteArray) : (nums s).length = s.size := by simp [nums]
theorem nums_of_str (L : List Int) (h : Byt L) : nums (strOfNums L) = L := by
  unfold strOfNums nums
  simp only [List.map_map]
  conv => rhs; rw [← List.map_id L]
  refine List.map_congr_left fun x hx => ?_
  obtain ⟨h0, h1⟩ := h x hx
  simp only [Function.comp, id]
  have : (UInt8.ofNat x.toNat).toNat = x.toNat := by
    rw [UInt8.toNat_ofNat']
    omega
  omega
theorem nums_get (s : ByteArray) (k : Nat) (h : k < s.size) : (nums s)[k]? = some ((s[k].toNat : Nat) : Int) := by
  have : s.data.toList[k]? = some s[k] := by
    rw [Array.getElem?_toList, Array.getElem?_eq_getElem h]
    rfl
  simp [nums, this]
theorem str_of_inj {L M : List Int} (hL : Byt L) (hM : Byt M) : strOfNums L = strOfNums M ↔ L = M :=
  ⟨fun h => by rw [← nums_of_str L hL, ← nums_of_str M hM, h], fun h => by rw [h]⟩
/-- A pair as it lies. -/
structure Bp where
  k : Sl
  v : Sl
def Bp.val (q : Bp) : Value := .agg #[q.k.val, q.v.val]
def Bp.cells (q : Bp) : List Value := [q.k.val, q.v.val]
/-- What is read of a pair. -/
def Bp.rd (q : Bp) : Pr := (q.k.l, q.v.l)
def rds (l : List Bp) : List Pr := l.map Bp.rd
theorem rds_append (l m : List Bp) : rds (l ++ m) = rds l ++ rds m := by simp [rds]
def pvals (l : List Bp) : List Value := l.flatMap Bp.cells
theorem below_drewN {B : Nat} {a w : World} (h : Below B a w) (n : Nat) : Below B a (w.drewN n) := ⟨h.os, h.tape, h.output, h.size, h.block⟩
theorem Lies.alloc {w : World} {A : Option Addr} {xs : List Value} (h : Lies w A xs) (o : Obj) : Lies (w.alloc o) A xs := h.kept (below_new w o)
/-- A row of pairs of the call's own, or nil. -/
def Prow (w : World) (B : Nat) (A : Option Addr) (c : Nat) (l : List Bp) : Prop := w.ownsRow B 65 2 (.slice A l.length c) l.length (pvals l)
theorem Prow.nil (w : World) (B : Nat) : Prow w B none 0 [] := World.ownsRow_nil w B _ _
theorem Prow.lies {w : World} {B : Nat} {A : Option Addr} {c : Nat} {l : List Bp} (h : Prow w B A c l) : Lies w A (pvals l) := by
  rcases h.2 with ⟨_, h⟩ | ⟨g, cap, cur, e, _⟩
  · exact .inl (by rw [List.eq_nil_of_length_eq_zero h]; rfl)
  · injection e with e1 e2 e3
    subst e1
    exact .inr ⟨_, rfl, fun j u hu => World.ownsRow.cells h (g := g) rfl j u hu⟩
theorem Prow.kept {w w' : World} {B C : Nat} {A : Option Addr} {c : Nat} {l : List Bp} (h : Prow w B A c l) (hb : Below C w w') (hC : w.heap.size ≤ C) : Prow w' B A c l := own_kept h hb hC
theorem Prow.mono {w : World} {B C : Nat} {A : Option Addr} {c : Nat} {l : List Bp} (h : Prow w B A c l) (hC : C ≤ B) : Prow w C A c l := own_mono h hC
theorem Prow.alloc {w : World} {B : Nat} {A : Option Addr} {c : Nat} {l : List Bp} (h : Prow w B A c l) (o : Obj) : Prow (w.alloc o) B A c l := h.kept (below_new w o) (Nat.le_refl _)
/-- What an append onto a row of pairs lets be: rows of bytes. -/
theorem Row.besideP {w w' : World} {B D : Nat} {A C : Option Addr} {c d : Nat} {L : List Int} {T : List Bp} (h : Row w B A c L) (hs : Prow w D C d T) (hg : w.grownBy w' (Value.slice C T.length d).ownBlock) : Row w' B A c L := by
  refine ⟨h.1, ?_⟩
  rcases h.2 with hn | ⟨g, cap, cur, e1, h1, h2, h3⟩
  · exact .inl hn
  · refine .inr ⟨g, cap, cur, e1, h1, ?_, h3⟩
    have hlt : g < w.heap.size := (Array.getElem?_eq_some_iff.1 h2).1
    rw [hg.block g hlt, h2]
    intro e
    rcases hs.2 with ⟨hn, _⟩ | ⟨g', cap', cur', e', _, h2', _⟩
    · rw [hn] at e
      simp [Value.ownBlock] at e
    · rw [e'] at e
      obtain rfl : g = g' := by simpa [Value.ownBlock] using e
      rw [h2] at h2'
      injection h2' with h2'
      injection h2' with _ h2'
      exact absurd h2' (by decide)
/-- Pairs whose bytes are rows of the call's own. -/
def Mades (w : World) (B : Nat) (l : List Bp) : Prop := ∀ q ∈ l, Row w B q.k.a q.k.c q.k.l ∧ Row w B q.v.a q.v.c q.v.l
theorem Mades.nil (w : World) (B : Nat) : Mades w B [] := fun _ h => by cases h
theorem Mades.kept {w w' : World} {B C : Nat} {l : List Bp} (h : Mades w B l) (hb : Below C w w') (hC : w.heap.size ≤ C) : Mades w' B l := fun q hq => ⟨(h q hq).1.kept hb hC, (h q hq).2.kept hb hC⟩
theorem Mades.mono {w : World} {B C : Nat} {l : List Bp} (h : Mades w B l) (hC : C ≤ B) : Mades w C l := fun q hq => ⟨(h q hq).1.mono hC, (h q hq).2.mono hC⟩
theorem Mades.snoc {w : World} {B : Nat} {l : List Bp} {q : Bp} (h : Mades w B l) (hk : Row w B q.k.a q.k.c q.k.l) (hv : Row w B q.v.a q.v.c q.v.l) : Mades w B (l ++ [q]) := fun x hx => by
  rcases List.mem_append.1 hx with hx | hx
  · exact h x hx
  · rw [List.mem_singleton] at hx
    subst hx
    exact ⟨hk, hv⟩
theorem Mades.besideP {w w' : World} {B D : Nat} {C : Option Addr} {d : Nat} {l T : List Bp} (h : Mades w B l) (hs : Prow w D C d T) (hg : w.grownBy w' (Value.slice C T.length d).ownBlock) : Mades w' B l := fun q hq => ⟨(h q hq).1.besideP hs hg, (h q hq).2.besideP hs hg⟩
/-- Pairs that can be read. -/
def Ins (w : World) (l : List Bp) : Prop := ∀ q ∈ l, In w q.k.a q.k.l q.k.l.length q.k.c ∧ In w q.v.a q.v.l q.v.l.length q.v.c
theorem Ins.nil (w : World) : Ins w [] := fun _ h => by cases h
theorem Ins.kept {w w' : World} {l : List Bp} (h : Ins w l) (hb : Below w.heap.size w w') : Ins w' l := fun q hq => ⟨(h q hq).1.kept hb, (h q hq).2.kept hb⟩
theorem Ins.byt {w : World} {l : List Bp} (h : Ins w l) : ∀ p ∈ rds l, PrB p := fun p hp => by
  obtain ⟨q, hq, rfl⟩ := List.mem_map.1 hp
  exact ⟨(h q hq).1.byt, (h q hq).2.byt⟩
theorem Mades.ins {w : World} {B : Nat} {l : List Bp} (h : Mades w B l) (hB : ∀ p ∈ rds l, PrB p) : Ins w l := fun q hq => ⟨(h q hq).1.in_ (hB _ (List.mem_map_of_mem hq)).1, (h q hq).2.in_ (hB _ (List.mem_map_of_mem hq)).2⟩
theorem ret_slice {A : Option Addr} {n m c : Nat} (h : n = m) : Ending.returned (.slice A n c) = .returned (.slice A m c) := by rw [h]
end Go.Proofs.Ytcffpkflijpdjaa
namespace Go.Proofs.Ytcffpkflijpdjaa
open Go.RowKit
theorem ret_int {k : IntKind} {a b : Int} (h : a = b) : Ending.returned (.int k a) = .returned (.int k b) := by rw [h]
end Go.Proofs.Ytcffpkflijpdjaa
namespace Go.Proofs.Ytcffpkflijpdjaa
open Go.RowKit
/-- Pieces, as slices that lie one behind the other. -/
def Pieces (w : World) (g : Nat) (Ls : List (List Int)) : Prop :=
  ∀ i L, Ls[i]? = some L → ∃ A c, w.cell? ⟨g, i, none⟩ = some (.slice A L.length c) ∧ Bys w A L
theorem Pieces.kept {w w' : World} {g : Nat} {Ls : List (List Int)} (h : Pieces w g Ls) (hb : Below w.heap.size w w') : Pieces w' g Ls := fun i L hi => by
  obtain ⟨A, c, h1, h2⟩ := h i L hi
  refine ⟨A, c, ?_, h2.kept hb⟩
  rw [hb.cell (World.block_lt_of_cell? w _ h1)]
  exact h1
end Go.Proofs.Ytcffpkflijpdjaa
