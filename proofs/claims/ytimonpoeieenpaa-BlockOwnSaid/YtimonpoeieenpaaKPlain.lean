/-
  Plain: numbers as few bytes, and back. Nothing of the program.
-/
import Derived.Test.YtimonpoeieenpaaProg
namespace Go.Proofs.Ytimonpoeieenpaa

/-- The form of a number: at most f + 1 bytes. -/
def digsF : Nat → Int → List Int
  | 0, v => [v]
  | f + 1, v => if v < 128 then [v] else (v % 128 + 128) :: digsF f (v / 128)
def digs (v : Int) : List Int := digsF 9 v
theorem digsF_low (f : Nat) (v : Int) (h : v < 128) : digsF f v = [v] := by cases f <;> simp [digsF, h]
theorem digsF_high (f : Nat) (v : Int) (h : ¬ v < 128) : digsF (f + 1) v = (v % 128 + 128) :: digsF f (v / 128) := by simp [digsF, h]
theorem digsF_len : ∀ (f : Nat) (v : Int), 1 ≤ (digsF f v).length ∧ (digsF f v).length ≤ f + 1
  | 0, v => by simp [digsF]
  | f + 1, v => by
    have := digsF_len f (v / 128)
    unfold digsF
    split <;> simp <;> omega
theorem digs_len (v : Int) : 1 ≤ (digs v).length ∧ (digs v).length ≤ 10 := digsF_len 9 v

/-- Bytes. -/
def Byt (L : List Int) : Prop := ∀ x ∈ L, 0 ≤ x ∧ x < 256
theorem Byt.nil : Byt [] := fun _ h => by cases h
theorem Byt.head {x : Int} {L : List Int} (h : Byt (x :: L)) : 0 ≤ x ∧ x < 256 := h x (by simp)
theorem Byt.tail {x : Int} {L : List Int} (h : Byt (x :: L)) : Byt L := fun y hy => h y (List.mem_cons_of_mem _ hy)
theorem Byt.cons {x : Int} {L : List Int} (h0 : 0 ≤ x) (h1 : x < 256) (h : Byt L) : Byt (x :: L) := fun y hy => by
  rcases List.mem_cons.1 hy with rfl | hy
  · exact ⟨h0, h1⟩
  · exact h y hy
theorem Byt.append {L M : List Int} (h : Byt L) (g : Byt M) : Byt (L ++ M) := fun x hx => by
  rcases List.mem_append.1 hx with hx | hx
  · exact h x hx
  · exact g x hx
theorem Byt.drop {L : List Int} (h : Byt L) (n : Nat) : Byt (L.drop n) := fun x hx => h x (List.mem_of_mem_drop hx)
theorem Byt.take {L : List Int} (h : Byt L) (n : Nat) : Byt (L.take n) := fun x hx => h x (List.mem_of_mem_take hx)
theorem Byt.one {x : Int} (h0 : 0 ≤ x) (h1 : x < 256) : Byt [x] := fun y hy => by
  obtain rfl := List.mem_singleton.1 hy
  exact ⟨h0, h1⟩
theorem digsF_byt : ∀ (f : Nat) (v : Int), 0 ≤ v → v < 128 ^ (f + 1) → Byt (digsF f v)
  | 0, v, h0, h1 => Byt.one h0 (by omega)
  | f + 1, v, h0, h1 => by
    by_cases h : v < 128
    · rw [digsF_low _ _ h]; exact Byt.one h0 (by omega)
    · rw [digsF_high _ _ h]
      refine Byt.append (L := [v % 128 + 128]) (Byt.one (by omega) (by omega)) (digsF_byt f (v / 128) (by omega) ?_)
      rw [Int.pow_succ] at h1
      generalize (128 : Int) ^ (f + 1) = P at *
      omega
theorem digs_byt (v : Int) (h0 : 0 ≤ v) (h1 : v ≤ 18446744073709551615) : Byt (digs v) := digsF_byt 9 v h0 (by omega)

/-- What is read from the i-th byte on: the number, how many bytes, the error. -/
def rd : Nat → Int → List Int → Int × Nat × Int
  | _, _, [] => (0, 0, 10)
  | i, a, c :: t =>
    if i = 9 ∧ 1 < c then (0, 0, 11)
    else if 128 ≤ c then rd (i + 1) (a + c % 128 * 128 ^ i) t
    else if c = 0 ∧ 0 < i then (0, 0, 11) else (a + c % 128 * 128 ^ i, i + 1, 0)

theorem split128 (v P : Int) : v % 128 * P + v / 128 * (P * 128) = v * P := by
  have h : v = v % 128 + v / 128 * 128 := by omega
  conv => rhs; rw [h, Int.add_mul]
  congr 1
  rw [Int.mul_assoc, Int.mul_comm 128 P]

/-- What was written is read back. -/
theorem rd_digs (R : List Int) : ∀ (f i : Nat) (a v : Int), i + f = 9 → 0 ≤ v → (0 < i → 0 < v) → (i = 9 → v ≤ 1) → v * 128 ^ i ≤ 18446744073709551615 →
    rd i a (digsF f v ++ R) = (a + v * 128 ^ i, i + (digsF f v).length, 0)
  | 0, i, a, v, hi, h0, h1, h9, _ => by
    obtain rfl : i = 9 := by omega
    have := h1 (by omega)
    have := h9 rfl
    obtain rfl : v = 1 := by omega
    rfl
  | f + 1, i, a, v, hi, h0, h1, h9, hb => by
    have n9 : i ≠ 9 := by omega
    by_cases h : v < 128
    · rw [digsF_low _ _ h]
      have n0 : ¬ (v = 0 ∧ 0 < i) := fun ⟨e, g⟩ => by have := h1 g; omega
      have nv : ¬ 128 ≤ v := by omega
      have em : v % 128 = v := by omega
      simp only [List.cons_append, List.nil_append]
      unfold rd
      rw [if_neg (by omega), if_neg nv, if_neg n0, em]
      rfl
    · rw [digsF_high _ _ h]
      have hs := split128 v (128 ^ i)
      have hp : (0 : Int) < 128 ^ i := Int.pow_pos (by omega)
      have em : (v % 128 + 128) % 128 = v % 128 := by omega
      have gv : 128 ≤ v % 128 + 128 := by omega
      have hq : v / 128 * 128 ^ (i + 1) ≤ 18446744073709551615 := by
        rw [Int.pow_succ]
        have : 0 ≤ v % 128 * 128 ^ i := Int.mul_nonneg (by omega) (by omega)
        omega
      have ih := rd_digs R f (i + 1) (a + v % 128 * 128 ^ i) (v / 128) (by omega) (by omega) (fun _ => by omega) (fun e => by
        obtain rfl : i = 8 := by omega
        have e9 : (128 : Int) ^ (8 + 1) = 9223372036854775808 := by decide
        rw [e9] at hq
        omega) hq
      rw [List.cons_append]
      unfold rd
      rw [if_neg (by omega), if_pos gv, em, ih]
      refine Prod.ext ?_ (Prod.ext ?_ rfl)
      · show a + v % 128 * 128 ^ i + v / 128 * 128 ^ (i + 1) = a + v * 128 ^ i
        rw [Int.pow_succ, Int.add_assoc, hs]
      · show i + 1 + _ = i + _
        simp only [List.length_cons]
        omega
theorem rd_back (v : Int) (R : List Int) (h0 : 0 ≤ v) (h1 : v ≤ 18446744073709551615) : rd 0 0 (digs v ++ R) = (v, (digs v).length, 0) := by
  have := rd_digs R 9 0 0 v rfl h0 (fun h => absurd h (by omega)) (fun h => absurd h (by omega)) (by simpa using h1)
  simpa [digs] using this

/-- Each number has one form. -/
theorem rd_one : ∀ (L : List Int) (i f : Nat) (a x : Int) (u : Nat), Byt L → i + f = 9 → rd i a L = (x, u, 0) →
    ∃ y, x = a + y * 128 ^ i ∧ 0 ≤ y ∧ (0 < i → 0 < y) ∧ i < u ∧ u - i ≤ L.length ∧ digsF f y = L.take (u - i)
  | [], i, f, a, x, u, _, _, h => by simp [rd] at h
  | c :: t, i, f, a, x, u, hB, hi, h => by
    have hc := hB c (by simp)
    have ht : Byt t := fun y hy => hB y (List.mem_cons_of_mem _ hy)
    unfold rd at h
    by_cases h9 : i = 9 ∧ 1 < c
    · rw [if_pos h9] at h; simp at h
    · rw [if_neg h9] at h
      by_cases hm : 128 ≤ c
      · rw [if_pos hm] at h
        obtain ⟨f', rfl⟩ : ∃ f', f = f' + 1 := ⟨f - 1, by omega⟩
        obtain ⟨y, e, y0, y1, iu, ul, ed⟩ := rd_one t (i + 1) f' _ x u ht (by omega) h
        have y1 := y1 (by omega)
        have hq : (y * 128 + c % 128) / 128 = y := by omega
        have hr : (y * 128 + c % 128) % 128 = c % 128 := by omega
        refine ⟨y * 128 + c % 128, ?_, by omega, fun _ => by omega, by omega, by simp; omega, ?_⟩
        · have hs := split128 (y * 128 + c % 128) (128 ^ i)
          rw [hq, hr] at hs
          rw [e, Int.pow_succ, Int.add_assoc, hs]
        · rw [digsF_high _ _ (by omega), hq, hr, ed, show u - i = u - (i + 1) + 1 by omega, List.take_succ_cons]
          congr 1
          omega
      · rw [if_neg hm] at h
        by_cases hz : c = 0 ∧ 0 < i
        · rw [if_pos hz] at h; simp at h
        · rw [if_neg hz] at h
          simp only [Prod.mk.injEq, and_true] at h
          obtain ⟨rfl, rfl⟩ := h
          have em : c % 128 = c := by omega
          refine ⟨c, by rw [em], hc.1, fun _ => by omega, by omega, by simp, ?_⟩
          rw [digsF_low _ _ (by omega), show i + 1 - i = 1 by omega]
          rfl
theorem rd_form (L : List Int) (x : Int) (u : Nat) (hB : Byt L) (h : rd 0 0 L = (x, u, 0)) : digs x = L.take u ∧ 0 < u ∧ u ≤ L.length := by
  obtain ⟨y, e, y0, _, iu, ul, ed⟩ := rd_one L 0 9 0 x u hB rfl h
  obtain rfl : x = y := by simpa using e
  exact ⟨ed, iu, by omega⟩

theorem pow_in (i : Nat) (h : i ≤ 9) : (1 : Int) ≤ 128 ^ i ∧ (128 : Int) ^ i ≤ 9223372036854775808 := by
  have : i = 0 ∨ i = 1 ∨ i = 2 ∨ i = 3 ∨ i = 4 ∨ i = 5 ∨ i = 6 ∨ i = 7 ∨ i = 8 ∨ i = 9 := by omega
  rcases this with rfl | rfl | rfl | rfl | rfl | rfl | rfl | rfl | rfl | rfl <;> decide
theorem rd_fits (d P a : Int) (d0 : 0 ≤ d) (d1 : d ≤ 127) (p1 : 1 ≤ P) (_a0 : 0 ≤ a) (a1 : a < P) : 0 ≤ d * P ∧ d * P ≤ 127 * P ∧ a + d * P < P * 128 := by
  have h0 : 0 ≤ d * P := Int.mul_nonneg d0 (by omega)
  have h1 : d * P ≤ 127 * P := Int.mul_le_mul_of_nonneg_right d1 (by omega)
  omega
/-- What is read fits. -/
theorem rd_bd : ∀ (L : List Int) (i : Nat) (a : Int), Byt L → i ≤ 9 → 0 ≤ a → a < 128 ^ i → 0 ≤ (rd i a L).1 ∧ (rd i a L).1 ≤ 18446744073709551615 ∧ (rd i a L).2.1 ≤ i + L.length ∧ ((rd i a L).2.2 = 0 → 0 < (rd i a L).2.1) ∧ ((rd i a L).2.2 ≠ 0 → (rd i a L).1 = 0 ∧ (rd i a L).2.1 = 0) ∧ 0 ≤ (rd i a L).2.2 ∧ (rd i a L).2.2 ≤ 11
  | [], i, a, _, _, _, _ => by simp [rd]
  | c :: t, i, a, hB, hi, a0, a1 => by
    have hc := hB c (by simp)
    have ht : Byt t := fun y hy => hB y (List.mem_cons_of_mem _ hy)
    obtain ⟨p0, p1⟩ := pow_in i hi
    unfold rd
    by_cases h9 : i = 9 ∧ 1 < c
    · rw [if_pos h9]; simp
    · rw [if_neg h9]
      obtain ⟨f0, f1, f2⟩ := rd_fits (c % 128) (128 ^ i) a (by omega) (by omega) p0 a0 a1
      by_cases hm : 128 ≤ c
      · rw [if_pos hm]
        have ih := rd_bd t (i + 1) (a + c % 128 * 128 ^ i) ht (by omega) (by omega) (by rw [Int.pow_succ]; exact f2)
        simp only [List.length_cons]
        omega
      · rw [if_neg hm]
        by_cases hz : c = 0 ∧ 0 < i
        · rw [if_pos hz]; simp
        · rw [if_neg hz]
          refine ⟨by show 0 ≤ a + _; omega, ?_, by simp only [List.length_cons]; omega, fun _ => Nat.succ_pos _, fun h => absurd rfl h, Int.le_refl _, by show (0 : Int) ≤ 11; decide⟩
          show a + c % 128 * 128 ^ i ≤ _
          by_cases e9 : i = 9
          · subst e9
            have e : (128 : Int) ^ 9 = 9223372036854775808 := by decide
            rw [e] at *
            omega
          · have : (128 : Int) ^ i * 128 ≤ 9223372036854775808 := by
              rw [← Int.pow_succ]
              exact (pow_in (i + 1) (by omega)).2
            omega

/-- A number with sign as one without, and back. -/
def zig (v : Int) : Int := if 0 ≤ v then 2 * v else -2 * v - 1
def unz (x : Int) : Int := if x % 2 = 0 then x / 2 else -(x / 2) - 1
theorem unz_zig (v : Int) : unz (zig v) = v := by unfold unz zig; split <;> split <;> omega
theorem zig_bd (v : Int) (h0 : -9223372036854775808 ≤ v) (h1 : v ≤ 9223372036854775807) : 0 ≤ zig v ∧ zig v ≤ 18446744073709551615 := by unfold zig; split <;> omega
theorem unz_bd (x : Int) (h0 : 0 ≤ x) (h1 : x ≤ 18446744073709551615) : -9223372036854775808 ≤ unz x ∧ unz x ≤ 9223372036854775807 := by unfold unz; split <;> omega

/-- What is read at a place: the number, the place behind it, the error. -/
def uintP (L : List Int) (at_ : Int) : Int × Int × Int :=
  if at_ < 0 ∨ (L.length : Int) < at_ then (0, 0, 2)
  else if (rd 0 0 (L.drop at_.toNat)).2.2 = 0 then ((rd 0 0 (L.drop at_.toNat)).1, at_ + ((rd 0 0 (L.drop at_.toNat)).2.1 : Int), 0) else (0, 0, (rd 0 0 (L.drop at_.toNat)).2.2)
def intP (L : List Int) (at_ : Int) : Int × Int × Int := (unz (uintP L at_).1, (uintP L at_).2)
def bytesP (L : List Int) (at_ most : Int) : List Int × Int × Int :=
  if (uintP L at_).2.2 ≠ 0 then ([], 0, (uintP L at_).2.2)
  else if most < 0 ∨ most < (uintP L at_).1 then ([], 0, 3)
  else if (L.length : Int) - (uintP L at_).2.1 < (uintP L at_).1 then ([], 0, 10)
  else ((L.drop (uintP L at_).2.1.toNat).take (uintP L at_).1.toNat, (uintP L at_).2.1 + (uintP L at_).1, 0)

theorem uintP_bd (L : List Int) (at_ : Int) (hB : Byt L) : 0 ≤ (uintP L at_).1 ∧ (uintP L at_).1 ≤ 18446744073709551615 ∧ ((uintP L at_).2.2 = 0 → 0 ≤ at_ ∧ at_ < (uintP L at_).2.1 ∧ (uintP L at_).2.1 ≤ L.length) ∧ ((uintP L at_).2.2 ≠ 0 → (uintP L at_).1 = 0 ∧ (uintP L at_).2.1 = 0) ∧ 0 ≤ (uintP L at_).2.2 ∧ (uintP L at_).2.2 ≤ 11 := by
  unfold uintP
  split
  · simp
  · next h =>
    have b := rd_bd (L.drop at_.toNat) 0 0 (hB.drop _) (by omega) (by omega) (by decide)
    have hl : (L.drop at_.toNat).length = L.length - at_.toNat := by simp
    rw [hl] at b
    split
    · next e =>
      refine ⟨b.1, b.2.1, fun _ => ?_, fun g => absurd rfl g, Int.le_refl _, by show (0 : Int) ≤ 11; decide⟩
      have := b.2.2.2.1 e
      show 0 ≤ at_ ∧ at_ < at_ + _ ∧ at_ + _ ≤ _
      omega
    · next e => exact ⟨Int.le_refl _, by show (0 : Int) ≤ _; decide, fun g => absurd g e, fun _ => ⟨rfl, rfl⟩, b.2.2.2.2.2⟩

/-- Behind what was there the number is read that was written. -/
theorem uintP_back (B R : List Int) (v : Int) (h0 : 0 ≤ v) (h1 : v ≤ 18446744073709551615) : uintP (B ++ (digs v ++ R)) B.length = (v, (B.length : Int) + (digs v).length, 0) := by
  unfold uintP
  rw [if_neg (by simp; omega)]
  have e : (B ++ (digs v ++ R)).drop ((B.length : Int).toNat) = digs v ++ R := by simp
  rw [e, rd_back v R h0 h1]
  simp
/-- What is read is written so. -/
theorem uintP_form (L : List Int) (at_ : Int) (hB : Byt L) (h : (uintP L at_).2.2 = 0) : L.take at_.toNat ++ digs (uintP L at_).1 = L.take (uintP L at_).2.1.toNat := by
  have b := uintP_bd L at_ hB
  have b3 := b.2.2.1 h
  unfold uintP at h b3 ⊢
  rw [if_neg (by omega)] at h b3 ⊢
  by_cases e : (rd 0 0 (L.drop at_.toNat)).2.2 = 0
  · rw [if_pos e] at b3 ⊢
    obtain ⟨f1, f2, f3⟩ := rd_form (L.drop at_.toNat) (rd 0 0 (L.drop at_.toNat)).1 (rd 0 0 (L.drop at_.toNat)).2.1 (hB.drop _) (Prod.ext rfl (Prod.ext rfl e))
    show L.take at_.toNat ++ digs _ = L.take (at_ + _).toNat
    rw [f1, show (at_ + ((rd 0 0 (L.drop at_.toNat)).2.1 : Int)).toNat = at_.toNat + (rd 0 0 (L.drop at_.toNat)).2.1 by omega, List.take_add]
  · rw [if_neg e] at h
    exact absurd h e
/-- The bytes that were written are read back. -/
theorem bytesP_back (B X : List Int) (h1 : (X.length : Int) ≤ 18446744073709551615) : bytesP (B ++ (digs X.length ++ X)) B.length X.length = (X, (B.length : Int) + (digs X.length).length + X.length, 0) := by
  unfold bytesP
  rw [uintP_back B X X.length (by omega) h1]
  rw [if_neg (by simp), if_neg (by simp), if_neg (by simp; omega)]
  refine Prod.ext ?_ rfl
  show ((B ++ (digs X.length ++ X)).drop ((B.length : Int) + (digs X.length).length).toNat).take (X.length : Int).toNat = X
  rw [← List.append_assoc, show ((B.length : Int) + (digs X.length).length).toNat = (B ++ digs X.length).length by simp only [List.length_append]; omega, List.drop_left]
  simp

/-- Bytes in order: -1, 0, 1. -/
def cmpL : List Int → List Int → Int
  | [], [] => 0
  | [], _ :: _ => -1
  | _ :: _, [] => 1
  | x :: s, y :: t => if x < y then -1 else if y < x then 1 else cmpL s t
theorem cmpL_self : ∀ L, cmpL L L = 0
  | [] => rfl
  | x :: s => by unfold cmpL; rw [if_neg (by omega), if_neg (by omega)]; exact cmpL_self s
theorem cmpL_cons (x : Int) (s t : List Int) : cmpL (x :: s) (x :: t) = cmpL s t := by
  conv => lhs; unfold cmpL
  rw [if_neg (by omega), if_neg (by omega)]
theorem cmpL_lt (x y : Int) (s t : List Int) (h : x < y) : cmpL (x :: s) (y :: t) = -1 := by unfold cmpL; rw [if_pos h]
theorem cmpL_gt (x y : Int) (s t : List Int) (h : y < x) : cmpL (x :: s) (y :: t) = 1 := by unfold cmpL; rw [if_neg (by omega), if_pos h]
theorem cmpL_three : ∀ (s t : List Int), cmpL s t = -1 ∨ cmpL s t = 0 ∨ cmpL s t = 1
  | [], [] => .inr (.inl rfl)
  | [], _ :: _ => .inl rfl
  | _ :: _, [] => .inr (.inr rfl)
  | x :: s, y :: t => by
    unfold cmpL
    split
    · exact .inl rfl
    · split
      · exact .inr (.inr rfl)
      · exact cmpL_three s t
theorem cmpL_flip : ∀ (s t : List Int), cmpL t s = -cmpL s t
  | [], [] => rfl
  | [], _ :: _ => rfl
  | _ :: _, [] => rfl
  | x :: s, y :: t => by
    rcases Int.lt_trichotomy x y with h | rfl | h
    · rw [cmpL_lt _ _ _ _ h, cmpL_gt _ _ _ _ h]; rfl
    · rw [cmpL_cons, cmpL_cons]; exact cmpL_flip s t
    · rw [cmpL_gt _ _ _ _ h, cmpL_lt _ _ _ _ h]
theorem cmpL_eq : ∀ (s t : List Int), cmpL s t = 0 → s = t
  | [], [], _ => rfl
  | [], _ :: _, h => by simp [cmpL] at h
  | _ :: _, [], h => by simp [cmpL] at h
  | x :: s, y :: t, h => by
    rcases Int.lt_trichotomy x y with g | rfl | g
    · rw [cmpL_lt _ _ _ _ g] at h; simp at h
    · rw [cmpL_cons] at h; rw [cmpL_eq s t h]
    · rw [cmpL_gt _ _ _ _ g] at h; simp at h
/-- Behind bytes of one length the first ones decide, if they differ. -/
theorem cmpL_same : ∀ (s t u v : List Int), s.length = t.length → cmpL (s ++ u) (t ++ v) = if cmpL s t ≠ 0 then cmpL s t else cmpL u v
  | [], [], u, v, _ => by simp [cmpL]
  | [], _ :: _, _, _, h => by simp at h
  | _ :: _, [], _, _, h => by simp at h
  | x :: s, y :: t, u, v, h => by
    have hl : s.length = t.length := by simpa using h
    rcases Int.lt_trichotomy x y with g | rfl | g
    · rw [List.cons_append, List.cons_append, cmpL_lt _ _ _ _ g, cmpL_lt _ _ _ _ g]; rfl
    · rw [List.cons_append, List.cons_append, cmpL_cons, cmpL_cons]; exact cmpL_same s t u v hl
    · rw [List.cons_append, List.cons_append, cmpL_gt _ _ _ _ g, cmpL_gt _ _ _ _ g]; rfl

end Go.Proofs.Ytimonpoeieenpaa
