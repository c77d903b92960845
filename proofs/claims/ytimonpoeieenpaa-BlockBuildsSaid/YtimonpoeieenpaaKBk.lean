/-
  Plain: blocks: how pairs are packed, unpacked, looked for. Nothing of the program.
-/
import Derived.Test.YtimonpoeieenpaaKPlain
namespace Go.Proofs.Ytimonpoeieenpaa

/-- How many bytes two begin alike. -/
def alike : List Int → List Int → Nat
  | x :: s, y :: t => if x = y then alike s t + 1 else 0
  | _, _ => 0
theorem alike_nil (s : List Int) : alike s [] = 0 := by cases s <;> rfl
theorem alike_cons (x : Int) (s t : List Int) : alike (x :: s) (x :: t) = alike s t + 1 := by
  conv => lhs; unfold alike
  rw [if_pos rfl]
theorem alike_ne {x y : Int} (s t : List Int) (h : x ≠ y) : alike (x :: s) (y :: t) = 0 := by
  conv => lhs; unfold alike
  rw [if_neg h]
theorem alike_le : ∀ s t : List Int, alike s t ≤ s.length ∧ alike s t ≤ t.length
  | [], _ => by simp [alike]
  | _ :: _, [] => by simp [alike]
  | x :: s, y :: t => by
    unfold alike
    have := alike_le s t
    split <;> simp <;> omega
theorem alike_comm : ∀ s t : List Int, alike s t = alike t s
  | [], [] => rfl
  | [], _ :: _ => rfl
  | _ :: _, [] => rfl
  | x :: s, y :: t => by
    unfold alike
    by_cases h : x = y
    · rw [if_pos h, if_pos h.symm, alike_comm s t]
    · rw [if_neg h, if_neg (fun e => h e.symm)]
theorem alike_common : ∀ p s t : List Int, alike (p ++ s) (p ++ t) = p.length + alike s t
  | [], _, _ => by simp
  | x :: p, s, t => by
    rw [List.cons_append, List.cons_append, alike_cons, alike_common p s t, List.length_cons]
    omega
theorem alike_take : ∀ s t : List Int, s.take (alike s t) = t.take (alike s t)
  | [], _ => by simp [alike]
  | _ :: _, [] => by simp [alike]
  | x :: s, y :: t => by
    unfold alike
    split
    · next h => subst h; rw [List.take_succ_cons, List.take_succ_cons, alike_take s t]
    · rfl
theorem alike_drop (s t : List Int) : alike (s.drop (alike s t)) (t.drop (alike s t)) = 0 := by
  have h := alike_common (s.take (alike s t)) (s.drop (alike s t)) (t.drop (alike s t))
  rw [List.take_append_drop] at h
  rw [alike_take s t, List.take_append_drop] at h
  have := (alike_le s t).2
  rw [List.length_take] at h
  omega
/-- One place further, as a loop goes. -/
theorem alike_step {s t : List Int} {k : Nat} {x y : Int} (h : alike s t = k + alike (s.drop k) (t.drop k)) (hx : s[k]? = some x) (hy : t[k]? = some y) : (x ≠ y ∧ alike s t = k) ∨ (x = y ∧ alike s t = k + 1 + alike (s.drop (k + 1)) (t.drop (k + 1))) := by
  obtain ⟨hk, e⟩ := List.getElem?_eq_some_iff.1 hx
  obtain ⟨hk', e'⟩ := List.getElem?_eq_some_iff.1 hy
  rw [List.drop_eq_getElem_cons hk, List.drop_eq_getElem_cons hk', e, e'] at h
  by_cases g : x = y
  · subst g
    rw [alike_cons] at h
    exact .inr ⟨rfl, by omega⟩
  · rw [alike_ne _ _ g] at h
    exact .inl ⟨g, by omega⟩
theorem alike_end {s t : List Int} {k : Nat} (h : alike s t = k + alike (s.drop k) (t.drop k)) (hk : s.length ≤ k ∨ t.length ≤ k) : alike s t = k := by
  rcases hk with g | g
  · rw [List.drop_of_length_le g] at h
    rw [h]
    rfl
  · rw [List.drop_of_length_le g, alike_nil] at h
    rw [h]
    rfl

theorem cmpL_common (p s t : List Int) : cmpL (p ++ s) (p ++ t) = cmpL s t := by
  rw [cmpL_same p p s t rfl, cmpL_self]
  rfl
theorem cmpL_trans : ∀ a b c : List Int, cmpL a b = 1 → cmpL b c = 1 → cmpL a c = 1
  | [], [], _, h, _ => by simp [cmpL] at h
  | [], _ :: _, _, h, _ => by simp [cmpL] at h
  | _ :: _, _, [], _, _ => rfl
  | _ :: _, [], _ :: _, _, g => by simp [cmpL] at g
  | x :: a, y :: b, z :: c, h, g => by
    rcases Int.lt_trichotomy x y with k | rfl | k
    · rw [cmpL_lt _ _ _ _ k] at h; simp at h
    · rcases Int.lt_trichotomy x z with l | rfl | l
      · rw [cmpL_lt _ _ _ _ l] at g; simp at g
      · rw [cmpL_cons] at h g ⊢; exact cmpL_trans a b c h g
      · exact cmpL_gt _ _ _ _ l
    · rcases Int.lt_trichotomy y z with l | rfl | l
      · rw [cmpL_lt _ _ _ _ l] at g; simp at g
      · exact cmpL_gt _ _ _ _ k
      · exact cmpL_gt _ _ _ _ (by omega)
/-- What is compared behind what is alike is compared as it is. -/
theorem cmpL_behind (s t : List Int) : cmpL (s.drop (alike s t)) (t.drop (alike s t)) = cmpL s t := by
  have h := cmpL_common (s.take (alike s t)) (s.drop (alike s t)) (t.drop (alike s t))
  rw [List.take_append_drop] at h
  rw [alike_take s t, List.take_append_drop] at h
  exact h.symm

/-- A pair: its key, its value. -/
abbrev Pr := List Int × List Int
def PrB (p : Pr) : Prop := Byt p.1 ∧ Byt p.2
/-- The key of the last pair. -/
def lastK : List Int → List Pr → List Int
  | a, [] => a
  | _, p :: l => lastK p.1 l
theorem lastK_snoc : ∀ (a : List Int) (l : List Pr) (p : Pr), lastK a (l ++ [p]) = p.1
  | _, [], _ => rfl
  | _, q :: l, p => lastK_snoc q.1 l p
/-- The form of a pair behind a key, and of pairs. -/
def formP (a : List Int) (p : Pr) : List Int := digs (alike p.1 a) ++ (digs ((p.1.length - alike p.1 a : Nat) : Int) ++ (digs p.2.length ++ (p.1.drop (alike p.1 a) ++ p.2)))
def flatP : List Int → List Pr → List Int
  | _, [] => []
  | a, p :: l => formP a p ++ flatP p.1 l
theorem flatP_snoc : ∀ (a : List Int) (l : List Pr) (p : Pr), flatP a (l ++ [p]) = flatP a l ++ formP (lastK a l) p
  | _, [], _ => by simp [flatP, lastK]
  | _, q :: l, p => by
    show formP _ q ++ flatP q.1 (l ++ [p]) = _
    rw [flatP_snoc q.1 l p, ← List.append_assoc]
    rfl
theorem flatP_append : ∀ (a : List Int) (l m : List Pr), flatP a (l ++ m) = flatP a l ++ flatP (lastK a l) m
  | _, [], _ => by simp [flatP, lastK]
  | _, q :: l, m => by
    show formP _ q ++ flatP q.1 (l ++ m) = _
    rw [flatP_append q.1 l m, ← List.append_assoc]
    rfl
/-- Keys that rise, each above the one ahead. -/
def risesP : List Int → List Pr → Prop
  | _, [] => True
  | a, p :: l => cmpL p.1 a = 1 ∧ risesP p.1 l
theorem risesP_snoc : ∀ (a : List Int) (l : List Pr) (p : Pr), risesP a (l ++ [p]) ↔ risesP a l ∧ cmpL p.1 (lastK a l) = 1
  | _, [], _ => by simp [risesP, lastK]
  | _, q :: l, p => by
    show (_ ∧ risesP q.1 (l ++ [p])) ↔ _
    rw [risesP_snoc q.1 l p, ← and_assoc]
    rfl
theorem risesP_left : ∀ (a : List Int) (l m : List Pr), risesP a (l ++ m) → risesP a l
  | _, [], _, _ => trivial
  | _, q :: l, m, h => ⟨h.1, risesP_left q.1 l m h.2⟩
theorem risesP_right : ∀ (a : List Int) (l m : List Pr), risesP a (l ++ m) → risesP (lastK a l) m
  | _, [], _, h => h
  | _, q :: l, m, h => risesP_right q.1 l m h.2
theorem risesP_above : ∀ (a : List Int) (l : List Pr), risesP a l → ∀ p ∈ l, cmpL p.1 a = 1
  | _, [], _, _, hp => by cases hp
  | a, q :: l, h, p, hp => by
    rcases List.mem_cons.1 hp with rfl | hp
    · exact h.1
    · exact cmpL_trans _ _ _ (risesP_above q.1 l h.2 p hp) h.1
theorem risesP_last : ∀ (a : List Int) (l : List Pr), risesP a l → ∀ p ∈ l, cmpL (lastK a l) p.1 = 1 ∨ lastK a l = p.1
  | _, [], _, _, hp => by cases hp
  | a, q :: l, h, p, hp => by
    rcases List.mem_cons.1 hp with rfl | hp
    · cases l with
      | nil => exact .inr rfl
      | cons r l =>
        have := risesP_last p.1 (r :: l) h.2 r List.mem_cons_self
        have k := h.2.1
        rcases this with g | g
        · exact .inl (cmpL_trans _ _ _ g k)
        · exact .inl (by show cmpL (lastK p.1 (r :: l)) p.1 = 1; rw [g]; exact k)
    · exact risesP_last q.1 l h.2 p hp
/-- A key above the last one is none of those ahead. -/
theorem risesP_new {a : List Int} {l : List Pr} {k : List Int} (h : risesP a l) (hk : cmpL k (lastK a l) = 1) : ∀ p ∈ l, p.1 ≠ k := fun p hp e => by
  have : cmpL k p.1 = 1 := by
    rcases risesP_last a l h p hp with g | g
    · exact cmpL_trans _ _ _ hk g
    · rw [← g]; exact hk
  rw [e, cmpL_self] at this
  simp at this

def ShortP (p : Pr) : Prop := p.1.length ≤ 200 ∧ p.2.length ≤ 4096
instance (p : Pr) : Decidable (ShortP p) := inferInstanceAs (Decidable (_ ∧ _))
def FitP (l : List Pr) : Prop := l.length ≤ 4096 ∧ ∀ p ∈ l, ShortP p
open Classical in
/-- How pairs are packed, or refused. -/
noncomputable def buildP (l : List Pr) : List Int × Int := if ¬ FitP l then ([], 3) else if ¬ risesP [] l then ([], 30) else (flatP [] l, 0)
theorem buildP_long {l : List Pr} (h : ¬ FitP l) : buildP l = ([], 3) := by unfold buildP; rw [if_pos h]
theorem buildP_key {l : List Pr} (h : FitP l) (g : ¬ risesP [] l) : buildP l = ([], 30) := by unfold buildP; rw [if_neg (by simpa using h), if_pos g]
theorem buildP_ok {l : List Pr} (h : FitP l) (g : risesP [] l) : buildP l = (flatP [] l, 0) := by unfold buildP; rw [if_neg (by simpa using h), if_neg (by simpa using g)]
theorem buildP_cases (l : List Pr) : buildP l = ([], 3) ∨ buildP l = ([], 30) ∨ (FitP l ∧ risesP [] l ∧ buildP l = (flatP [] l, 0)) := by
  by_cases h : FitP l
  · by_cases g : risesP [] l
    · exact .inr (.inr ⟨h, g, buildP_ok h g⟩)
    · exact .inr (.inl (buildP_key h g))
  · exact .inl (buildP_long h)
theorem formP_byt (a : List Int) (p : Pr) (h : PrB p) (hs : ShortP p) : Byt (formP a p) := by
  have := (alike_le p.1 a).1
  obtain ⟨h1, h2⟩ := hs
  exact (digs_byt _ (by omega) (by omega)).append ((digs_byt _ (by omega) (by omega)).append ((digs_byt _ (by omega) (by omega)).append ((h.1.drop _).append h.2)))
theorem flatP_byt : ∀ (a : List Int) (l : List Pr), (∀ p ∈ l, PrB p) → (∀ p ∈ l, ShortP p) → Byt (flatP a l)
  | _, [], _, _ => Byt.nil
  | a, p :: l, h, g => (formP_byt a p (h p List.mem_cons_self) (g p List.mem_cons_self)).append (flatP_byt p.1 l (fun q hq => h q (List.mem_cons_of_mem _ hq)) (fun q hq => g q (List.mem_cons_of_mem _ hq)))
theorem formP_len (a : List Int) (p : Pr) (hs : ShortP p) : (formP a p).length ≤ 4326 ∧ 1 ≤ (formP a p).length := by
  have := digs_len (alike p.1 a)
  have := digs_len ((p.1.length - alike p.1 a : Nat) : Int)
  have := digs_len p.2.length
  obtain ⟨h1, h2⟩ := hs
  unfold formP
  simp only [List.length_append, List.length_drop]
  omega
theorem flatP_len : ∀ (a : List Int) (l : List Pr), (∀ p ∈ l, ShortP p) → (flatP a l).length ≤ 4326 * l.length
  | _, [], _ => by simp [flatP]
  | a, p :: l, g => by
    have := formP_len a p (g p List.mem_cons_self)
    have := flatP_len p.1 l (fun q hq => g q (List.mem_cons_of_mem _ hq))
    simp only [flatP, List.length_append, List.length_cons]
    omega

/-- The three numbers that stand at a place: they, the place behind them, the error. -/
def numsP (L : List Int) (a : Int) : (Int × Int × Int) × Int × Int :=
  if (uintP L a).2.2 ≠ 0 then ((0, 0, 0), 0, (uintP L a).2.2)
  else if (uintP L (uintP L a).2.1).2.2 ≠ 0 then ((0, 0, 0), 0, (uintP L (uintP L a).2.1).2.2)
  else if (uintP L (uintP L (uintP L a).2.1).2.1).2.2 ≠ 0 then ((0, 0, 0), 0, (uintP L (uintP L (uintP L a).2.1).2.1).2.2)
  else (((uintP L a).1, (uintP L (uintP L a).2.1).1, (uintP L (uintP L (uintP L a).2.1).2.1).1), (uintP L (uintP L (uintP L a).2.1).2.1).2.1, 0)
/-- The pair whose numbers are x, y, z and whose bytes begin at s, behind a key. -/
def bodyP (L ahead : List Int) (x y z s : Int) : Pr × Int × Int :=
  if (ahead.length : Int) < x then (([], []), 0, 11)
  else if 200 - x < y ∨ 4096 < z then (([], []), 0, 3)
  else if (L.length : Int) - s < y + z then (([], []), 0, 10)
  else if cmpL ((L.drop s.toNat).take y.toNat) (ahead.drop x.toNat) ≠ 1 ∨ 0 < alike ((L.drop s.toNat).take y.toNat) (ahead.drop x.toNat) then (([], []), 0, 11)
  else ((ahead.take x.toNat ++ (L.drop s.toNat).take y.toNat, (L.drop (s + y).toNat).take z.toNat), s + y + z, 0)
/-- The pair that stands at a place behind a key: it, the place behind it, the error. -/
def oneP (L : List Int) (a : Nat) (ahead : List Int) : Pr × Int × Int :=
  if (numsP L a).2.2 ≠ 0 then (([], []), 0, (numsP L a).2.2) else bodyP L ahead (numsP L a).1.1 (numsP L a).1.2.1 (numsP L a).1.2.2 (numsP L a).2.1

theorem numsP_bd (L : List Int) (a : Int) (hB : Byt L) : 0 ≤ (numsP L a).2.2 ∧ (numsP L a).2.2 ≤ 11 ∧ ((numsP L a).2.2 = 0 → 0 ≤ a ∧ a + 3 ≤ (numsP L a).2.1 ∧ (numsP L a).2.1 ≤ L.length) ∧ (0 ≤ (numsP L a).1.1 ∧ (numsP L a).1.1 ≤ 18446744073709551615) ∧ (0 ≤ (numsP L a).1.2.1 ∧ (numsP L a).1.2.1 ≤ 18446744073709551615) ∧ 0 ≤ (numsP L a).1.2.2 ∧ (numsP L a).1.2.2 ≤ 18446744073709551615 := by
  have b0 := uintP_bd L a hB
  have b1 := uintP_bd L (uintP L a).2.1 hB
  have b2 := uintP_bd L (uintP L (uintP L a).2.1).2.1 hB
  unfold numsP
  split
  · exact ⟨by simp only; omega, by simp only; omega, fun e => by simp only at e; omega, by simp, by simp, by simp⟩
  · split
    · exact ⟨by simp only; omega, by simp only; omega, fun e => by simp only at e; omega, by simp, by simp, by simp⟩
    · split
      · exact ⟨by simp only; omega, by simp only; omega, fun e => by simp only at e; omega, by simp, by simp, by simp⟩
      · simp only
        omega
theorem bodyP_bd (L ahead : List Int) (x y z s : Int) : 0 ≤ (bodyP L ahead x y z s).2.2 ∧ (bodyP L ahead x y z s).2.2 ≤ 11 := by
  unfold bodyP
  repeat' split
  all_goals simp
theorem bodyP_ok {L ahead : List Int} {x y z s : Int} (h : (bodyP L ahead x y z s).2.2 = 0) : x ≤ ahead.length ∧ y ≤ 200 - x ∧ z ≤ 4096 ∧ y + z ≤ L.length - s ∧ cmpL ((L.drop s.toNat).take y.toNat) (ahead.drop x.toNat) = 1 ∧ alike ((L.drop s.toNat).take y.toNat) (ahead.drop x.toNat) = 0 ∧
    bodyP L ahead x y z s = ((ahead.take x.toNat ++ (L.drop s.toNat).take y.toNat, (L.drop (s + y).toNat).take z.toNat), s + y + z, 0) := by
  unfold bodyP at h ⊢
  split at h
  · simp at h
  · split at h
    · simp at h
    · split at h
      · simp at h
      · split at h
        · simp at h
        · next h1 h2 h3 h4 =>
          rw [if_neg h1, if_neg h2, if_neg h3, if_neg h4]
          simp only [not_or, Int.not_lt, Decidable.not_not, Nat.not_lt, Nat.le_zero, ne_eq] at h2 h4
          exact ⟨by omega, by omega, by omega, by omega, h4.1, by omega, rfl⟩
theorem oneP_bd (L : List Int) (a : Nat) (ahead : List Int) (hB : Byt L) : 0 ≤ (oneP L a ahead).2.2 ∧ (oneP L a ahead).2.2 ≤ 11 := by
  have := numsP_bd L a hB
  unfold oneP
  split
  · simp only; omega
  · exact bodyP_bd _ _ _ _ _ _
/-- What a pair is that could be read. -/
theorem oneP_ok {L : List Int} {a : Nat} {ahead : List Int} (_hB : Byt L) (h : (oneP L a ahead).2.2 = 0) :
    (numsP L a).2.2 = 0 ∧ (bodyP L ahead (numsP L a).1.1 (numsP L a).1.2.1 (numsP L a).1.2.2 (numsP L a).2.1).2.2 = 0 ∧ oneP L a ahead = bodyP L ahead (numsP L a).1.1 (numsP L a).1.2.1 (numsP L a).1.2.2 (numsP L a).2.1 := by
  unfold oneP at h ⊢
  split at h
  · next g => exact absurd h g
  · next g =>
    rw [if_neg g]
    exact ⟨by simpa using g, h, rfl⟩
theorem oneP_step {L : List Int} {a : Nat} {ahead : List Int} (hB : Byt L) (h : (oneP L a ahead).2.2 = 0) :
    ∃ e : Nat, (oneP L a ahead).2.1 = e ∧ a + 3 ≤ e ∧ e ≤ L.length ∧ ShortP (oneP L a ahead).1 ∧ (Byt ahead → PrB (oneP L a ahead).1) ∧ cmpL (oneP L a ahead).1.1 ahead = 1 ∧ L.take e = L.take a ++ formP ahead (oneP L a ahead).1 := by
  obtain ⟨h1, h2, h3⟩ := oneP_ok hB h
  obtain ⟨-, -, n1, n2, n3, n4⟩ := numsP_bd L a hB
  obtain ⟨n10, n11, n12⟩ := n1 h1
  obtain ⟨b1, b2, b3, b4, b5, b6, b7⟩ := bodyP_ok h2
  have hn := h1
  unfold numsP at hn
  have b0 := uintP_bd L a hB
  split at hn
  · next g => exact absurd hn g
  · next g0 =>
    split at hn
    · next g => exact absurd hn g
    · next g1 =>
      split at hn
      · next g => exact absurd hn g
      · next g2 =>
        have f0 := uintP_form L a hB (by simpa using g0)
        have f1 := uintP_form L _ hB (by simpa using g1)
        have f2 := uintP_form L _ hB (by simpa using g2)
        have en : numsP L a = (((uintP L a).1, (uintP L (uintP L a).2.1).1, (uintP L (uintP L (uintP L a).2.1).2.1).1), (uintP L (uintP L (uintP L a).2.1).2.1).2.1, 0) := by
          unfold numsP
          rw [if_neg g0, if_neg g1, if_neg g2]
        rw [← f1, ← f0] at f2
        have ex : (uintP L a).1 = (numsP L a).1.1 := by rw [en]
        have ey : (uintP L (uintP L a).2.1).1 = (numsP L a).1.2.1 := by rw [en]
        have ez : (uintP L (uintP L (uintP L a).2.1).2.1).1 = (numsP L a).1.2.2 := by rw [en]
        have es : (uintP L (uintP L (uintP L a).2.1).2.1).2.1 = (numsP L a).2.1 := by rw [en]
        rw [ex, ey, ez, es] at f2
        rw [h3, b7]
        clear en ex ey ez es f0 f1 g0 g1 g2 h3 b7 hn b0 h h1 h2
        generalize (numsP L a).1.1 = x at *
        generalize (numsP L a).1.2.1 = y at *
        generalize (numsP L a).1.2.2 = z at *
        generalize (numsP L a).2.1 = s at *
        obtain ⟨X, rfl⟩ := Int.eq_ofNat_of_zero_le n2.1
        obtain ⟨Y, rfl⟩ := Int.eq_ofNat_of_zero_le n3.1
        obtain ⟨Z, rfl⟩ := Int.eq_ofNat_of_zero_le n4.1
        obtain ⟨S, rfl⟩ := Int.eq_ofNat_of_zero_le (a := s) (by omega)
        have e1 : ((S : Int) + Y).toNat = S + Y := by omega
        simp only [Int.toNat_natCast, e1] at *
        have hlen : ((L.drop S).take Y).length = Y := by rw [List.length_take, List.length_drop]; omega
        have hlz : ((L.drop (S + Y)).take Z).length = Z := by rw [List.length_take, List.length_drop]; omega
        have hal : alike (ahead.take X ++ (L.drop S).take Y) ahead = X := by
          conv => lhs; rw [← List.take_append_drop X ahead, List.take_append_of_le_length (by rw [List.length_take]; omega), List.take_take, Nat.min_self]
          rw [alike_common, b6, List.length_take]
          omega
        refine ⟨S + Y + Z, by omega, by omega, by omega, ⟨by simp only [List.length_append, hlen, List.length_take]; omega, by simp only [hlz]; omega⟩, fun hA => ⟨(hA.take _).append ((hB.drop _).take _), (hB.drop _).take _⟩, ?_, ?_⟩
        · conv => lhs; rw [← List.take_append_drop X ahead, List.take_append_of_le_length (by rw [List.length_take]; omega), List.take_take, Nat.min_self]
          rw [cmpL_common]
          exact b5
        · unfold formP
          simp only [hal, hlz]
          have e2 : (ahead.take X ++ (L.drop S).take Y).length - X = Y := by rw [List.length_append, hlen, List.length_take]; omega
          have e3 : (ahead.take X ++ (L.drop S).take Y).drop X = (L.drop S).take Y := List.drop_left' (by rw [List.length_take]; omega)
          rw [e2, e3, ← List.append_assoc, ← List.append_assoc, ← List.append_assoc, f2, ← List.append_assoc, ← List.take_add, List.take_add, ← List.take_add, List.take_add]

/-- What is read from a place on, behind pairs. -/
def readF (L : List Int) : Nat → Nat → List Pr → List Pr × Int
  | 0, _, _ => ([], -1)
  | f + 1, a, ps => if L.length ≤ a then (ps, 0) else if (oneP L a (lastK [] ps)).2.2 ≠ 0 then ([], (oneP L a (lastK [] ps)).2.2) else if 4096 ≤ ps.length then ([], 3) else readF L f (oneP L a (lastK [] ps)).2.1.toNat (ps ++ [(oneP L a (lastK [] ps)).1])
def readP (L : List Int) : List Pr × Int := readF L (L.length + 1) 0 []
/-- Where a reader stands that has read some pairs. -/
structure LeftB (L : List Int) (ps : List Pr) (a : Nat) : Prop where
  le : a ≤ L.length
  to : ∃ f, L.length < a + f ∧ readF L f a ps = readP L
  rise : risesP [] ps
  short : FitP ps
  byt : ∀ p ∈ ps, PrB p
  form : flatP [] ps = L.take a
  room : ps.length ≤ a
theorem lastK_byt : ∀ (a : List Int) (l : List Pr), Byt a → (∀ p ∈ l, PrB p) → Byt (lastK a l)
  | _, [], h, _ => h
  | _, p :: l, _, h => lastK_byt p.1 l (h p List.mem_cons_self).1 (fun q hq => h q (List.mem_cons_of_mem _ hq))
theorem lastK_short : ∀ (a : List Int) (l : List Pr), a.length ≤ 200 → (∀ p ∈ l, ShortP p) → (lastK a l).length ≤ 200
  | _, [], h, _ => h
  | _, p :: l, _, h => lastK_short p.1 l (h p List.mem_cons_self).1 (fun q hq => h q (List.mem_cons_of_mem _ hq))
theorem LeftB.start (L : List Int) : LeftB L [] 0 := ⟨Nat.zero_le _, ⟨L.length + 1, by omega, rfl⟩, trivial, ⟨by simp, fun p hp => (List.not_mem_nil hp).elim⟩, fun p hp => (List.not_mem_nil hp).elim, by simp [flatP], by simp⟩
theorem LeftB.end_ {L : List Int} {ps : List Pr} {a : Nat} (h : LeftB L ps a) (hl : L.length ≤ a) : readP L = (ps, 0) := by
  obtain ⟨f, hf, e⟩ := h.to
  obtain ⟨g, rfl⟩ : ∃ g, f = g + 1 := ⟨f - 1, by have := h.le; omega⟩
  rw [← e]
  unfold readF
  rw [if_pos hl]
theorem LeftB.bad {L : List Int} {ps : List Pr} {a : Nat} (h : LeftB L ps a) (hl : a < L.length) (h0 : (oneP L a (lastK [] ps)).2.2 ≠ 0) : readP L = ([], (oneP L a (lastK [] ps)).2.2) := by
  obtain ⟨f, hf, e⟩ := h.to
  obtain ⟨g, rfl⟩ : ∃ g, f = g + 1 := ⟨f - 1, by have := h.le; omega⟩
  rw [← e]
  unfold readF
  rw [if_neg (by omega), if_pos h0]
theorem LeftB.many {L : List Int} {ps : List Pr} {a : Nat} (h : LeftB L ps a) (hl : a < L.length) (h0 : (oneP L a (lastK [] ps)).2.2 = 0) (hm : 4096 ≤ ps.length) : readP L = ([], 3) := by
  obtain ⟨f, hf, e⟩ := h.to
  obtain ⟨g, rfl⟩ : ∃ g, f = g + 1 := ⟨f - 1, by have := h.le; omega⟩
  rw [← e]
  unfold readF
  rw [if_neg (by omega), if_neg (by simpa using h0), if_pos hm]
theorem LeftB.step {L : List Int} {ps : List Pr} {a : Nat} (h : LeftB L ps a) (hB : Byt L) (hl : a < L.length) (h0 : (oneP L a (lastK [] ps)).2.2 = 0) (hm : ps.length < 4096) :
    ∃ e : Nat, (oneP L a (lastK [] ps)).2.1 = e ∧ a + 3 ≤ e ∧ e ≤ L.length ∧ LeftB L (ps ++ [(oneP L a (lastK [] ps)).1]) e := by
  obtain ⟨f, hf, e⟩ := h.to
  obtain ⟨g, rfl⟩ : ∃ g, f = g + 1 := ⟨f - 1, by have := h.le; omega⟩
  obtain ⟨n, s1, s2, s3, s4, s5, s6, s7⟩ := oneP_step hB h0
  unfold readF at e
  rw [if_neg (by omega), if_neg (by simpa using h0), if_neg (by omega), s1] at e
  refine ⟨n, s1, s2, s3, s3, ⟨g, by omega, e⟩, (risesP_snoc _ _ _).2 ⟨h.rise, s6⟩, ⟨by rw [List.length_append]; simp only [List.length_singleton]; omega, fun p hp => ?_⟩, fun p hp => ?_, ?_, ?_⟩
  · rcases List.mem_append.1 hp with hp | hp
    · exact h.short.2 p hp
    · rw [List.mem_singleton] at hp; subst hp; exact s4
  · rcases List.mem_append.1 hp with hp | hp
    · exact h.byt p hp
    · rw [List.mem_singleton] at hp; subst hp; exact s5 (lastK_byt _ _ Byt.nil h.byt)
  · rw [flatP_snoc, h.form, s7]
  · rw [List.length_append]; have := h.room; simp only [List.length_singleton]; omega

/-- What is packed is unpacked. -/
theorem numsP_back (B R : List Int) (x y z : Nat) (hx : x ≤ 4096) (hy : y ≤ 4096) (hz : z ≤ 4096) : numsP (B ++ (digs x ++ (digs y ++ (digs z ++ R)))) B.length = (((x : Int), (y : Int), (z : Int)), ((B ++ (digs x ++ (digs y ++ digs z))).length : Int), 0) := by
  have h0 := uintP_back B (digs y ++ (digs z ++ R)) x (by omega) (by omega)
  have h1 := uintP_back (B ++ digs x) (digs z ++ R) y (by omega) (by omega)
  have h2 := uintP_back (B ++ digs x ++ digs y) R z (by omega) (by omega)
  simp only [List.append_assoc] at h0 h1 h2
  have e1 : ((B ++ digs x).length : Int) = B.length + (digs x).length := by simp
  have e2 : ((B ++ (digs x ++ digs y)).length : Int) = B.length + (digs x).length + (digs y).length := by simp; omega
  rw [e1] at h1
  rw [e2] at h2
  have e3 : ((B ++ (digs x ++ (digs y ++ digs z))).length : Int) = B.length + (digs x).length + (digs y).length + (digs z).length := by simp; omega
  rw [e3]
  unfold numsP
  rw [h0]
  simp only
  rw [h1]
  simp only
  rw [h2]
  simp
theorem oneP_back (B R ahead : List Int) (p : Pr) (hs : ShortP p) (hr : cmpL p.1 ahead = 1) : oneP (B ++ (formP ahead p ++ R)) B.length ahead = (p, ((B ++ formP ahead p).length : Int), 0) := by
  obtain ⟨k, v⟩ := p
  obtain ⟨hk, hv⟩ := hs
  simp only at hk hv hr
  obtain ⟨n, hn⟩ : ∃ n, alike k ahead = n := ⟨_, rfl⟩
  have hle := alike_le k ahead
  have ht := alike_take k ahead
  have hd := alike_drop k ahead
  have hb := cmpL_behind k ahead
  rw [hn] at hle ht hd hb
  have hN := numsP_back B (k.drop n ++ (v ++ R)) n (k.length - n) v.length (by omega) (by omega) (by omega)
  have eL : B ++ (formP ahead (k, v) ++ R) = B ++ (digs n ++ (digs ((k.length - n : Nat) : Int) ++ (digs v.length ++ (k.drop n ++ (v ++ R))))) := by
    unfold formP
    simp only [hn, List.append_assoc]
  rw [eL]
  unfold oneP
  rw [hN]
  rw [if_neg (by simp)]
  simp only
  obtain ⟨H, hH⟩ : ∃ H, B ++ (digs n ++ (digs ((k.length - n : Nat) : Int) ++ digs v.length)) = H := ⟨_, rfl⟩
  have eH : B ++ (digs n ++ (digs ((k.length - n : Nat) : Int) ++ (digs v.length ++ (k.drop n ++ (v ++ R))))) = H ++ (k.drop n ++ (v ++ R)) := by
    rw [← hH]
    simp only [List.append_assoc]
  have eF : B ++ formP ahead (k, v) = H ++ (k.drop n ++ v) := by
    unfold formP
    rw [← hH]
    simp only [hn, List.append_assoc]
  rw [hH, eH, eF]
  have d1 : ((H ++ (k.drop n ++ (v ++ R))).drop (H.length : Int).toNat).take (((k.length - n : Nat) : Int).toNat) = k.drop n := by
    rw [Int.toNat_natCast, Int.toNat_natCast, List.drop_left]
    exact List.take_left' (by rw [List.length_drop])
  have d2 : ((H ++ (k.drop n ++ (v ++ R))).drop ((H.length : Int) + ((k.length - n : Nat) : Int)).toNat).take ((v.length : Int).toNat) = v := by
    have e : ((H.length : Int) + ((k.length - n : Nat) : Int)).toNat = (H ++ k.drop n).length := by rw [List.length_append, List.length_drop]; omega
    rw [e, ← List.append_assoc, List.drop_left, Int.toNat_natCast, List.take_left]
  unfold bodyP
  rw [d1, d2, Int.toNat_natCast, hb, hd, hr]
  rw [if_neg (by omega), if_neg (by omega), if_neg (by simp only [List.length_append, List.length_drop]; omega), if_neg (by simp)]
  rw [← ht, List.take_append_drop]
  refine Prod.ext rfl (Prod.ext ?_ rfl)
  simp only [List.length_append, List.length_drop]
  omega
theorem readF_back : ∀ (ps qs : List Pr) (f : Nat), FitP (ps ++ qs) → risesP [] (ps ++ qs) → (flatP [] (ps ++ qs)).length < (flatP [] ps).length + f → readF (flatP [] (ps ++ qs)) f (flatP [] ps).length ps = (ps ++ qs, 0)
  | ps, qs, 0, _, _, hf => by rw [flatP_append, List.length_append] at hf; omega
  | ps, [], f + 1, _, _, _ => by
    unfold readF
    rw [List.append_nil, if_pos (Nat.le_refl _)]
  | ps, p :: qs, f + 1, hF, hR, hf => by
    have hr := risesP_right [] ps (p :: qs) hR
    have hs := hF.2 p (by simp)
    have ho := oneP_back (flatP [] ps) (flatP p.1 qs) (lastK [] ps) p hs hr.1
    have ef : flatP [] (ps ++ p :: qs) = flatP [] ps ++ (formP (lastK [] ps) p ++ flatP p.1 qs) := by rw [flatP_append]; rfl
    have hp := formP_len (lastK [] ps) p hs
    have hm := hF.1
    rw [List.length_append, List.length_cons] at hm
    have es : (ps ++ [p]) ++ qs = ps ++ p :: qs := by simp
    have ih := readF_back (ps ++ [p]) qs f (by rw [es]; exact hF) (by rw [es]; exact hR) (by
      rw [es, flatP_snoc, List.length_append]
      omega)
    rw [es, flatP_snoc] at ih
    rw [← ef] at ho
    unfold readF
    rw [if_neg (by rw [ef]; simp only [List.length_append]; omega), ho]
    simp only [ne_eq, not_true_eq_false, if_false]
    rw [if_neg (by omega), Int.toNat_natCast]
    exact ih
theorem readP_back {l : List Pr} (h : FitP l) (g : risesP [] l) : readP (flatP [] l) = (l, 0) := by
  have := readF_back [] l ((flatP [] l).length + 1) h g (by simp only [List.nil_append, flatP, List.length_nil]; omega)
  show readF (flatP [] l) ((flatP [] l).length + 1) 0 [] = _
  simpa only [flatP, List.nil_append, List.length_nil] using this
/-- What is unpacked is packed as it was. -/
theorem readF_form (L : List Int) (hB : Byt L) : ∀ (f a : Nat) (ps l : List Pr), LeftB L ps a → L.length < a + f → readF L f a ps = readP L → readP L = (l, 0) → LeftB L l L.length
  | 0, a, ps, l, h, hf, _, _ => by have := h.le; omega
  | f + 1, a, ps, l, h, hf, he, hl => by
    by_cases h1 : L.length ≤ a
    · have e := h.end_ h1
      rw [hl] at e
      obtain rfl : l = ps := (Prod.mk.inj e).1
      obtain rfl : a = L.length := by have := h.le; omega
      exact h
    · by_cases h2 : (oneP L a (lastK [] ps)).2.2 = 0
      · by_cases h3 : 4096 ≤ ps.length
        · have e := h.many (by omega) h2 h3
          rw [hl] at e
          exact absurd (Prod.mk.inj e).2 (by decide)
        · obtain ⟨e, e1, e2, e3, e4⟩ := h.step hB (by omega) h2 (by omega)
          have he' := he
          unfold readF at he'
          rw [if_neg (by omega), if_neg (by simpa using h2), if_neg h3, e1, Int.toNat_natCast] at he'
          exact readF_form L hB f e _ l e4 (by omega) he' hl
      · have e := h.bad (by omega) h2
        rw [hl] at e
        exact absurd (Prod.mk.inj e).2.symm h2
theorem readP_form {L : List Int} {l : List Pr} (hB : Byt L) (h : readP L = (l, 0)) : LeftB L l L.length := readF_form L hB (L.length + 1) 0 [] l (LeftB.start L) (by omega) rfl h
theorem readP_build {L : List Int} {l : List Pr} (hB : Byt L) (h : readP L = (l, 0)) : buildP l = (L, 0) := by
  have g := readP_form hB h
  rw [buildP_ok g.short g.rise, g.form, List.take_length]
theorem readF_err (L : List Int) : ∀ (f a : Nat) (ps : List Pr), (readF L f a ps).2 ≠ 0 → (readF L f a ps).1 = []
  | 0, _, _, _ => rfl
  | f + 1, a, ps, h => by
    unfold readF at h ⊢
    split at h
    · exact absurd rfl h
    · next h1 =>
      rw [if_neg h1]
      split at h
      · next h2 => rw [if_pos h2]
      · next h2 =>
        rw [if_neg h2]
        split at h
        · next h3 => rw [if_pos h3]
        · next h3 =>
          rw [if_neg h3]
          exact readF_err L f _ _ h
theorem readP_err {L : List Int} (h : (readP L).2 ≠ 0) : (readP L).1 = [] := readF_err L _ _ _ h

/-- A key looked for in pairs; in bytes. -/
def seekP (k : List Int) (l : List Pr) : Option Pr := l.find? (fun p => decide (p.1 = k))
def findP (L k : List Int) : List Int × Bool × Int :=
  if (readP L).2 ≠ 0 then ([], false, (readP L).2)
  else match seekP k (readP L).1 with
    | some p => (p.2, true, 0)
    | none => ([], false, 0)
theorem seekP_none {k : List Int} {l : List Pr} (h : ∀ p ∈ l, p.1 ≠ k) : seekP k l = none := List.find?_eq_none.2 (fun p hp => by simpa using h p hp)
theorem seekP_snoc (k : List Int) (l : List Pr) (p : Pr) : seekP k (l ++ [p]) = (seekP k l).or (if p.1 = k then some p else none) := by
  unfold seekP
  rw [List.find?_append]
  congr 1
  by_cases h : p.1 = k
  · rw [if_pos h]; simp [List.find?, h]
  · rw [if_neg h]; simp [List.find?, h]
theorem seekP_new {k : List Int} {l : List Pr} {p : Pr} (h : risesP [] l) (hp : cmpL p.1 (lastK [] l) = 1) (e : p.1 = k) : seekP k (l ++ [p]) = some p := by
  subst e
  rw [seekP_snoc, seekP_none (risesP_new h hp), if_pos rfl]
  rfl
theorem seekP_old {k : List Int} {l : List Pr} {p : Pr} (e : p.1 ≠ k) : seekP k (l ++ [p]) = seekP k l := by
  rw [seekP_snoc, if_neg e]
  simp
theorem seekP_at : ∀ (a : List Int) (l : List Pr) (i : Nat) (p : Pr), risesP a l → l[i]? = some p → seekP p.1 l = some p
  | _, [], i, p, _, h => by simp at h
  | a, q :: l, 0, p, _, h => by
    simp at h
    subst h
    simp [seekP]
  | a, q :: l, i + 1, p, hr, h => by
    have h' : l[i]? = some p := by simpa using h
    have ih := seekP_at q.1 l i p hr.2 h'
    have hne : q.1 ≠ p.1 := fun e => by
      have := risesP_above q.1 l hr.2 p (List.mem_of_getElem? h')
      rw [e, cmpL_self] at this
      simp at this
    unfold seekP at ih ⊢
    rw [List.find?_cons_of_neg (by simpa using hne)]
    exact ih
theorem findP_back {l : List Pr} {i : Nat} {p : Pr} (h : FitP l) (g : risesP [] l) (hp : l[i]? = some p) : findP (flatP [] l) p.1 = (p.2, true, 0) := by
  unfold findP
  rw [readP_back h g, if_neg (by simp)]
  simp only [seekP_at [] l i p g hp]

end Go.Proofs.Ytimonpoeieenpaa
