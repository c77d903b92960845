/-
  Plain: blocks: how pairs are packed, unpacked, looked for. Nothing of the program. Memory: pairs as they lie, two cells each. Bits: a byte marked, a number joined, a number folded and unfolded. Walks: bytes copied and compared; the form of a number. Walks: pieces joined; a number appended, by the program and by the document. Walks: a number that is read, by the program.
-/
import Derived.Laws.Strings
import Derived.Deep.QuietTactic
import Derived.BigQuiet
import Derived.Deep.RegionLaw
import Derived.Deep.RegionHeld3
import Derived.Deep.RegionWith
import Derived.Lib.BufferMore
import Derived.Deep.CutRange
import Derived.Deep.Cut
import Derived.Deep.CutBlock
import Derived.Laws.BitsAllLaws
import Derived.WalkKit
import Derived.Test.YtmgggddnfeojmaaGreatJO00
set_option linter.unusedSimpArgs false
set_option linter.unusedVariables false
namespace Go.Proofs.YtmgggddnfeojmaaGreat
/-- How many bytes two begin alike. -/
def alike : List Int → List Int → Nat
  | x :: s, y :: t => if x = y then alike s t + 1 else 0
  | _, _ => 0
theorem alike_nil (s : List Int) : alike s [] = 0 := by cases s <;> rfl
theorem alike_cons (x : Int) (s t : List Int) : alike (x :: s) (x :: t) = alike s t + 1 := by
  conv => lhs; unfold alike
  rw [if_pos rfl]
theorem alike_ne {x y : Int} (s t : List Int) (h : x ≠ y) : alike (x :: s) (y :: t) = 0 := by
  conv => lhs; unfold alike
  rw [if_neg h]
theorem alike_le : ∀ s t : List Int, alike s t ≤ s.length ∧ alike s t ≤ t.length
  | [], _ => by simp [alike]
  | _ :: _, [] => by simp [alike]
  | x :: s, y :: t => by
    unfold alike
    have := alike_le s t
    split <;> simp <;> omega
theorem alike_common : ∀ p s t : List Int, alike (p ++ s) (p ++ t) = p.length + alike s t
  | [], _, _ => by simp
  | x :: p, s, t => by
    rw [List.cons_append, List.cons_append, alike_cons, alike_common p s t, List.length_cons]
    omega
theorem alike_take : ∀ s t : List Int, s.take (alike s t) = t.take (alike s t)
  | [], _ => by simp [alike]
  | _ :: _, [] => by simp [alike]
  | x :: s, y :: t => by
    unfold alike
    split
    · next h => subst h; rw [List.take_succ_cons, List.take_succ_cons, alike_take s t]
    · rfl
theorem alike_drop (s t : List Int) : alike (s.drop (alike s t)) (t.drop (alike s t)) = 0 := by
  have h := alike_common (s.take (alike s t)) (s.drop (alike s t)) (t.drop (alike s t))
  rw [List.take_append_drop] at h
  rw [alike_take s t, List.take_append_drop] at h
  have := (alike_le s t).2
  rw [List.length_take] at h
  omega
/-- One place further, as a loop goes. -/
theorem alike_step {s t : List Int} {k : Nat} {x y : Int} (h : alike s t = k + alike (s.drop k) (t.drop k)) (hx : s[k]? = some x) (hy : t[k]? = some y) : (x ≠ y ∧ alike s t = k) ∨ (x = y ∧ alike s t = k + 1 + alike (s.drop (k + 1)) (t.drop (k + 1))) := by
  obtain ⟨hk, e⟩ := List.getElem?_eq_some_iff.1 hx
  obtain ⟨hk', e'⟩ := List.getElem?_eq_some_iff.1 hy
  rw [List.drop_eq_getElem_cons hk, List.drop_eq_getElem_cons hk', e, e'] at h
  by_cases g : x = y
  · subst g
    rw [alike_cons] at h
    exact .inr ⟨rfl, by omega⟩
  · rw [alike_ne _ _ g] at h
    exact .inl ⟨g, by omega⟩
theorem alike_end {s t : List Int} {k : Nat} (h : alike s t = k + alike (s.drop k) (t.drop k)) (hk : s.length ≤ k ∨ t.length ≤ k) : alike s t = k := by
  rcases hk with g | g
  · rw [List.drop_of_length_le g] at h
    rw [h]
    rfl
  · rw [List.drop_of_length_le g, alike_nil] at h
    rw [h]
    rfl
theorem cmpL_common (p s t : List Int) : cmpL (p ++ s) (p ++ t) = cmpL s t := by
  rw [cmpL_same p p s t rfl, cmpL_self]
  rfl
theorem cmpL_trans : ∀ a b c : List Int, cmpL a b = 1 → cmpL b c = 1 → cmpL a c = 1
  | [], [], _, h, _ => by simp [cmpL] at h
  | [], _ :: _, _, h, _ => by simp [cmpL] at h
  | _ :: _, _, [], _, _ => rfl
  | _ :: _, [], _ :: _, _, g => by simp [cmpL] at g
  | x :: a, y :: b, z :: c, h, g => by
    rcases Int.lt_trichotomy x y with k | rfl | k
    · rw [cmpL_lt _ _ _ _ k] at h; simp at h
    · rcases Int.lt_trichotomy x z with l | rfl | l
      · rw [cmpL_lt _ _ _ _ l] at g; simp at g
      · rw [cmpL_cons] at h g ⊢; exact cmpL_trans a b c h g
      · exact cmpL_gt _ _ _ _ l
    · rcases Int.lt_trichotomy y z with l | rfl | l
      · rw [cmpL_lt _ _ _ _ l] at g; simp at g
      · exact cmpL_gt _ _ _ _ k
      · exact cmpL_gt _ _ _ _ (by omega)
/-- What is compared behind what is alike is compared as it is. -/
theorem cmpL_behind (s t : List Int) : cmpL (s.drop (alike s t)) (t.drop (alike s t)) = cmpL s t := by
  have h := cmpL_common (s.take (alike s t)) (s.drop (alike s t)) (t.drop (alike s t))
  rw [List.take_append_drop] at h
  rw [alike_take s t, List.take_append_drop] at h
  exact h.symm
/-- A pair: its key, its value. -/
abbrev Pr := List Int × List Int
def PrB (p : Pr) : Prop := Byt p.1 ∧ Byt p.2
/-- The key of the last pair. -/
def lastK : List Int → List Pr → List Int
  | a, [] => a
  | _, p :: l => lastK p.1 l
theorem lastK_snoc : ∀ (a : List Int) (l : List Pr) (p : Pr), lastK a (l ++ [p]) = p.1
  | _, [], _ => rfl
  | _, q :: l, p => lastK_snoc q.1 l p
/-- The form of a pair behind a key, and of pairs. -/
def formP (a : List Int) (p : Pr) : List Int := digs (alike p.1 a) ++ (digs ((p.1.length - alike p.1 a : Nat) : Int) ++ (digs p.2.length ++ (p.1.drop (alike p.1 a) ++ p.2)))
def flatP : List Int → List Pr → List Int
  | _, [] => []
  | a, p :: l => formP a p ++ flatP p.1 l
theorem flatP_snoc : ∀ (a : List Int) (l : List Pr) (p : Pr), flatP a (l ++ [p]) = flatP a l ++ formP (lastK a l) p
  | _, [], _ => by simp [flatP, lastK]
  | _, q :: l, p => by
    show formP _ q ++ flatP q.1 (l ++ [p]) = _
    rw [flatP_snoc q.1 l p, ← List.append_assoc]
    rfl
theorem flatP_append : ∀ (a : List Int) (l m : List Pr), flatP a (l ++ m) = flatP a l ++ flatP (lastK a l) m
  | _, [], _ => by simp [flatP, lastK]
  | _, q :: l, m => by
    show formP _ q ++ flatP q.1 (l ++ m) = _
    rw [flatP_append q.1 l m, ← List.append_assoc]
    rfl
/-- Keys that rise, each above the one ahead. -/
def risesP : List Int → List Pr → Prop
  | _, [] => True
  | a, p :: l => cmpL p.1 a = 1 ∧ risesP p.1 l
theorem risesP_snoc : ∀ (a : List Int) (l : List Pr) (p : Pr), risesP a (l ++ [p]) ↔ risesP a l ∧ cmpL p.1 (lastK a l) = 1
  | _, [], _ => by simp [risesP, lastK]
  | _, q :: l, p => by
    show (_ ∧ risesP q.1 (l ++ [p])) ↔ _
    rw [risesP_snoc q.1 l p, ← and_assoc]
    rfl
theorem risesP_left : ∀ (a : List Int) (l m : List Pr), risesP a (l ++ m) → risesP a l
  | _, [], _, _ => trivial
  | _, q :: l, m, h => ⟨h.1, risesP_left q.1 l m h.2⟩
theorem risesP_right : ∀ (a : List Int) (l m : List Pr), risesP a (l ++ m) → risesP (lastK a l) m
  | _, [], _, h => h
  | _, q :: l, m, h => risesP_right q.1 l m h.2
def ShortP (p : Pr) : Prop := p.1.length ≤ 200 ∧ p.2.length ≤ 4096
instance (p : Pr) : Decidable (ShortP p) := inferInstanceAs (Decidable (_ ∧ _))
def FitP (l : List Pr) : Prop := l.length ≤ 4096 ∧ ∀ p ∈ l, ShortP p
open Classical in
/-- How pairs are packed, or refused. -/
noncomputable def buildP (l : List Pr) : List Int × Int := if ¬ FitP l then ([], 3) else if ¬ risesP [] l then ([], 30) else (flatP [] l, 0)
theorem buildP_long {l : List Pr} (h : ¬ FitP l) : buildP l = ([], 3) := by unfold buildP; rw [if_pos h]
theorem buildP_key {l : List Pr} (h : FitP l) (g : ¬ risesP [] l) : buildP l = ([], 30) := by unfold buildP; rw [if_neg (by simpa using h), if_pos g]
theorem buildP_ok {l : List Pr} (h : FitP l) (g : risesP [] l) : buildP l = (flatP [] l, 0) := by unfold buildP; rw [if_neg (by simpa using h), if_neg (by simpa using g)]
theorem formP_byt (a : List Int) (p : Pr) (h : PrB p) (hs : ShortP p) : Byt (formP a p) := by
  have := (alike_le p.1 a).1
  obtain ⟨h1, h2⟩ := hs
  exact (digs_byt _ (by omega) (by omega)).append ((digs_byt _ (by omega) (by omega)).append ((digs_byt _ (by omega) (by omega)).append ((h.1.drop _).append h.2)))
theorem flatP_byt : ∀ (a : List Int) (l : List Pr), (∀ p ∈ l, PrB p) → (∀ p ∈ l, ShortP p) → Byt (flatP a l)
  | _, [], _, _ => Byt.nil
  | a, p :: l, h, g => (formP_byt a p (h p List.mem_cons_self) (g p List.mem_cons_self)).append (flatP_byt p.1 l (fun q hq => h q (List.mem_cons_of_mem _ hq)) (fun q hq => g q (List.mem_cons_of_mem _ hq)))
theorem formP_len (a : List Int) (p : Pr) (hs : ShortP p) : (formP a p).length ≤ 4326 ∧ 1 ≤ (formP a p).length := by
  have := digs_len (alike p.1 a)
  have := digs_len ((p.1.length - alike p.1 a : Nat) : Int)
  have := digs_len p.2.length
  obtain ⟨h1, h2⟩ := hs
  unfold formP
  simp only [List.length_append, List.length_drop]
  omega
theorem flatP_len : ∀ (a : List Int) (l : List Pr), (∀ p ∈ l, ShortP p) → (flatP a l).length ≤ 4326 * l.length
  | _, [], _ => by simp [flatP]
  | a, p :: l, g => by
    have := formP_len a p (g p List.mem_cons_self)
    have := flatP_len p.1 l (fun q hq => g q (List.mem_cons_of_mem _ hq))
    simp only [flatP, List.length_append, List.length_cons]
    omega
/-- The three numbers that stand at a place: they, the place behind them, the error. -/
def numsP (L : List Int) (a : Int) : (Int × Int × Int) × Int × Int :=
  if (uintP L a).2.2 ≠ 0 then ((0, 0, 0), 0, (uintP L a).2.2)
  else if (uintP L (uintP L a).2.1).2.2 ≠ 0 then ((0, 0, 0), 0, (uintP L (uintP L a).2.1).2.2)
  else if (uintP L (uintP L (uintP L a).2.1).2.1).2.2 ≠ 0 then ((0, 0, 0), 0, (uintP L (uintP L (uintP L a).2.1).2.1).2.2)
  else (((uintP L a).1, (uintP L (uintP L a).2.1).1, (uintP L (uintP L (uintP L a).2.1).2.1).1), (uintP L (uintP L (uintP L a).2.1).2.1).2.1, 0)
/-- The pair whose numbers are x, y, z and whose bytes begin at s, behind a key. -/
def bodyP (L ahead : List Int) (x y z s : Int) : Pr × Int × Int :=
  if (ahead.length : Int) < x then (([], []), 0, 11)
  else if 200 - x < y ∨ 4096 < z then (([], []), 0, 3)
  else if (L.length : Int) - s < y + z then (([], []), 0, 10)
  else if cmpL ((L.drop s.toNat).take y.toNat) (ahead.drop x.toNat) ≠ 1 ∨ 0 < alike ((L.drop s.toNat).take y.toNat) (ahead.drop x.toNat) then (([], []), 0, 11)
  else ((ahead.take x.toNat ++ (L.drop s.toNat).take y.toNat, (L.drop (s + y).toNat).take z.toNat), s + y + z, 0)
/-- The pair that stands at a place behind a key: it, the place behind it, the error. -/
def oneP (L : List Int) (a : Nat) (ahead : List Int) : Pr × Int × Int :=
  if (numsP L a).2.2 ≠ 0 then (([], []), 0, (numsP L a).2.2) else bodyP L ahead (numsP L a).1.1 (numsP L a).1.2.1 (numsP L a).1.2.2 (numsP L a).2.1
theorem numsP_bd (L : List Int) (a : Int) (hB : Byt L) : 0 ≤ (numsP L a).2.2 ∧ (numsP L a).2.2 ≤ 11 ∧ ((numsP L a).2.2 = 0 → 0 ≤ a ∧ a + 3 ≤ (numsP L a).2.1 ∧ (numsP L a).2.1 ≤ L.length) ∧ (0 ≤ (numsP L a).1.1 ∧ (numsP L a).1.1 ≤ 18446744073709551615) ∧ (0 ≤ (numsP L a).1.2.1 ∧ (numsP L a).1.2.1 ≤ 18446744073709551615) ∧ 0 ≤ (numsP L a).1.2.2 ∧ (numsP L a).1.2.2 ≤ 18446744073709551615 := by
  have b0 := uintP_bd L a hB
  have b1 := uintP_bd L (uintP L a).2.1 hB
  have b2 := uintP_bd L (uintP L (uintP L a).2.1).2.1 hB
  unfold numsP
  split
  · exact ⟨by simp only; omega, by simp only; omega, fun e => by simp only at e; omega, by simp, by simp, by simp⟩
  · split
    · exact ⟨by simp only; omega, by simp only; omega, fun e => by simp only at e; omega, by simp, by simp, by simp⟩
    · split
      · exact ⟨by simp only; omega, by simp only; omega, fun e => by simp only at e; omega, by simp, by simp, by simp⟩
      · simp only
        omega
theorem bodyP_ok {L ahead : List Int} {x y z s : Int} (h : (bodyP L ahead x y z s).2.2 = 0) : x ≤ ahead.length ∧ y ≤ 200 - x ∧ z ≤ 4096 ∧ y + z ≤ L.length - s ∧ cmpL ((L.drop s.toNat).take y.toNat) (ahead.drop x.toNat) = 1 ∧ alike ((L.drop s.toNat).take y.toNat) (ahead.drop x.toNat) = 0 ∧
    bodyP L ahead x y z s = ((ahead.take x.toNat ++ (L.drop s.toNat).take y.toNat, (L.drop (s + y).toNat).take z.toNat), s + y + z, 0) := by
  unfold bodyP at h ⊢
  split at h
  · simp at h
  · split at h
    · simp at h
    · split at h
      · simp at h
      · split at h
        · simp at h
        · next h1 h2 h3 h4 =>
          rw [if_neg h1, if_neg h2, if_neg h3, if_neg h4]
          simp only [not_or, Int.not_lt, Decidable.not_not, Nat.not_lt, Nat.le_zero, ne_eq] at h2 h4
          exact ⟨by omega, by omega, by omega, by omega, h4.1, by omega, rfl⟩
/-- What a pair is that could be read. -/
theorem oneP_ok {L : List Int} {a : Nat} {ahead : List Int} (_hB : Byt L) (h : (oneP L a ahead).2.2 = 0) :
    (numsP L a).2.2 = 0 ∧ (bodyP L ahead (numsP L a).1.1 (numsP L a).1.2.1 (numsP L a).1.2.2 (numsP L a).2.1).2.2 = 0 ∧ oneP L a ahead = bodyP L ahead (numsP L a).1.1 (numsP L a).1.2.1 (numsP L a).1.2.2 (numsP L a).2.1 := by
  unfold oneP at h ⊢
  split at h
  · next g => exact absurd h g
  · next g =>
    rw [if_neg g]
    exact ⟨by simpa using g, h, rfl⟩
theorem oneP_step {L : List Int} {a : Nat} {ahead : List Int} (hB : Byt L) (h : (oneP L a ahead).2.2 = 0) :
    ∃ e : Nat, (oneP L a ahead).2.1 = e ∧ a + 3 ≤ e ∧ e ≤ L.length ∧ ShortP (oneP L a ahead).1 ∧ (Byt ahead → PrB (oneP L a ahead).1) ∧ cmpL (oneP L a ahead).1.1 ahead = 1 ∧ L.take e = L.take a ++ formP ahead (oneP L a ahead).1 := by
  obtain ⟨h1, h2, h3⟩ := oneP_ok hB h
  obtain ⟨-, -, n1, n2, n3, n4⟩ := numsP_bd L a hB
  obtain ⟨n10, n11, n12⟩ := n1 h1
  obtain ⟨b1, b2, b3, b4, b5, b6, b7⟩ := bodyP_ok h2
  have hn := h1
  unfold numsP at hn
  have b0 := uintP_bd L a hB
  split at hn
  · next g => exact absurd hn g
  · next g0 =>
    split at hn
    · next g => exact absurd hn g
    · next g1 =>
      split at hn
      · next g => exact absurd hn g
      · next g2 =>
        have f0 := uintP_form L a hB (by simpa using g0)
        have f1 := uintP_form L _ hB (by simpa using g1)
        have f2 := uintP_form L _ hB (by simpa using g2)
        have en : numsP L a = (((uintP L a).1, (uintP L (uintP L a).2.1).1, (uintP L (uintP L (uintP L a).2.1).2.1).1), (uintP L (uintP L (uintP L a).2.1).2.1).2.1, 0) := by
          unfold numsP
          rw [if_neg g0, if_neg g1, if_neg g2]
        rw [← f1, ← f0] at f2
        have ex : (uintP L a).1 = (numsP L a).1.1 := by rw [en]
        have ey : (uintP L (uintP L a).2.1).1 = (numsP L a).1.2.1 := by rw [en]
        have ez : (uintP L (uintP L (uintP L a).2.1).2.1).1 = (numsP L a).1.2.2 := by rw [en]
        have es : (uintP L (uintP L (uintP L a).2.1).2.1).2.1 = (numsP L a).2.1 := by rw [en]
        rw [ex, ey, ez, es] at f2
        rw [h3, b7]
        clear en ex ey ez es f0 f1 g0 g1 g2 h3 b7 hn b0 h h1 h2
        generalize (numsP L a).1.1 = x at *
        generalize (numsP L a).1.2.1 = y at *
        generalize (numsP L a).1.2.2 = z at *
        generalize (numsP L a).2.1 = s at *
        obtain ⟨X, rfl⟩ := Int.eq_ofNat_of_zero_le n2.1
        obtain ⟨Y, rfl⟩ := Int.eq_ofNat_of_zero_le n3.1
        obtain ⟨Z, rfl⟩ := Int.eq_ofNat_of_zero_le n4.1
        obtain ⟨S, rfl⟩ := Int.eq_ofNat_of_zero_le (a := s) (by omega)
        have e1 : ((S : Int) + Y).toNat = S + Y := by omega
        simp only [Int.toNat_natCast, e1] at *
        have hlen : ((L.drop S).take Y).length = Y := by rw [List.length_take, List.length_drop]; omega
        have hlz : ((L.drop (S + Y)).take Z).length = Z := by rw [List.length_take, List.length_drop]; omega
        have hal : alike (ahead.take X ++ (L.drop S).take Y) ahead = X := by
          conv => lhs; rw [← List.take_append_drop X ahead, List.take_append_of_le_length (by rw [List.length_take]; omega), List.take_take, Nat.min_self]
          rw [alike_common, b6, List.length_take]
          omega
        refine ⟨S + Y + Z, by omega, by omega, by omega, ⟨by simp only [List.length_append, hlen, List.length_take]; omega, by simp only [hlz]; omega⟩, fun hA => ⟨(hA.take _).append ((hB.drop _).take _), (hB.drop _).take _⟩, ?_, ?_⟩
        · conv => lhs; rw [← List.take_append_drop X ahead, List.take_append_of_le_length (by rw [List.length_take]; omega), List.take_take, Nat.min_self]
          rw [cmpL_common]
          exact b5
        · unfold formP
          simp only [hal, hlz]
          have e2 : (ahead.take X ++ (L.drop S).take Y).length - X = Y := by rw [List.length_append, hlen, List.length_take]; omega
          have e3 : (ahead.take X ++ (L.drop S).take Y).drop X = (L.drop S).take Y := List.drop_left' (by rw [List.length_take]; omega)
          rw [e2, e3, ← List.append_assoc, ← List.append_assoc, ← List.append_assoc, f2, ← List.append_assoc, ← List.take_add, List.take_add, ← List.take_add, List.take_add]
/-- What is read from a place on, behind pairs. -/
def readF (L : List Int) : Nat → Nat → List Pr → List Pr × Int
  | 0, _, _ => ([], -1)
  | f + 1, a, ps => if L.length ≤ a then (ps, 0) else if (oneP L a (lastK [] ps)).2.2 ≠ 0 then ([], (oneP L a (lastK [] ps)).2.2) else if 4096 ≤ ps.length then ([], 3) else readF L f (oneP L a (lastK [] ps)).2.1.toNat (ps ++ [(oneP L a (lastK [] ps)).1])
def readP (L : List Int) : List Pr × Int := readF L (L.length + 1) 0 []
/-- Where a reader stands that has read some pairs. -/
structure LeftB (L : List Int) (ps : List Pr) (a : Nat) : Prop where
  le : a ≤ L.length
  upTo : ∃ f, L.length < a + f ∧ readF L f a ps = readP L
  rise : risesP [] ps
  short : FitP ps
  byt : ∀ p ∈ ps, PrB p
  form : flatP [] ps = L.take a
  room : ps.length ≤ a
theorem lastK_byt : ∀ (a : List Int) (l : List Pr), Byt a → (∀ p ∈ l, PrB p) → Byt (lastK a l)
  | _, [], h, _ => h
  | _, p :: l, _, h => lastK_byt p.1 l (h p List.mem_cons_self).1 (fun q hq => h q (List.mem_cons_of_mem _ hq))
theorem lastK_short : ∀ (a : List Int) (l : List Pr), a.length ≤ 200 → (∀ p ∈ l, ShortP p) → (lastK a l).length ≤ 200
  | _, [], h, _ => h
  | _, p :: l, _, h => lastK_short p.1 l (h p List.mem_cons_self).1 (fun q hq => h q (List.mem_cons_of_mem _ hq))
theorem LeftB.start (L : List Int) : LeftB L [] 0 := ⟨Nat.zero_le _, ⟨L.length + 1, by omega, rfl⟩, trivial, ⟨by simp, fun p hp => (List.not_mem_nil hp).elim⟩, fun p hp => (List.not_mem_nil hp).elim, by simp [flatP], by simp⟩
theorem LeftB.end_ {L : List Int} {ps : List Pr} {a : Nat} (h : LeftB L ps a) (hl : L.length ≤ a) : readP L = (ps, 0) := by
  obtain ⟨f, hf, e⟩ := h.upTo
  obtain ⟨g, rfl⟩ : ∃ g, f = g + 1 := ⟨f - 1, by have := h.le; omega⟩
  rw [← e]
  unfold readF
  rw [if_pos hl]
theorem LeftB.bad {L : List Int} {ps : List Pr} {a : Nat} (h : LeftB L ps a) (hl : a < L.length) (h0 : (oneP L a (lastK [] ps)).2.2 ≠ 0) : readP L = ([], (oneP L a (lastK [] ps)).2.2) := by
  obtain ⟨f, hf, e⟩ := h.upTo
  obtain ⟨g, rfl⟩ : ∃ g, f = g + 1 := ⟨f - 1, by have := h.le; omega⟩
  rw [← e]
  unfold readF
  rw [if_neg (by omega), if_pos h0]
theorem LeftB.many {L : List Int} {ps : List Pr} {a : Nat} (h : LeftB L ps a) (hl : a < L.length) (h0 : (oneP L a (lastK [] ps)).2.2 = 0) (hm : 4096 ≤ ps.length) : readP L = ([], 3) := by
  obtain ⟨f, hf, e⟩ := h.upTo
  obtain ⟨g, rfl⟩ : ∃ g, f = g + 1 := ⟨f - 1, by have := h.le; omega⟩
  rw [← e]
  unfold readF
  rw [if_neg (by omega), if_neg (by simpa using h0), if_pos hm]
theorem LeftB.step {L : List Int} {ps : List Pr} {a : Nat} (h : LeftB L ps a) (hB : Byt L) (hl : a < L.length) (h0 : (oneP L a (lastK [] ps)).2.2 = 0) (hm : ps.length < 4096) :
    ∃ e : Nat, (oneP L a (lastK [] ps)).2.1 = e ∧ a + 3 ≤ e ∧ e ≤ L.length ∧ LeftB L (ps ++ [(oneP L a (lastK [] ps)).1]) e := by
  obtain ⟨f, hf, e⟩ := h.upTo
  obtain ⟨g, rfl⟩ : ∃ g, f = g + 1 := ⟨f - 1, by have := h.le; omega⟩
  obtain ⟨n, s1, s2, s3, s4, s5, s6, s7⟩ := oneP_step hB h0
  unfold readF at e
  rw [if_neg (by omega), if_neg (by simpa using h0), if_neg (by omega), s1] at e
  refine ⟨n, s1, s2, s3, s3, ⟨g, by omega, e⟩, (risesP_snoc _ _ _).2 ⟨h.rise, s6⟩, ⟨by rw [List.length_append]; simp only [List.length_singleton]; omega, fun p hp => ?_⟩, fun p hp => ?_, ?_, ?_⟩
  · rcases List.mem_append.1 hp with hp | hp
    · exact h.short.2 p hp
    · rw [List.mem_singleton] at hp; subst hp; exact s4
  · rcases List.mem_append.1 hp with hp | hp
    · exact h.byt p hp
    · rw [List.mem_singleton] at hp; subst hp; exact s5 (lastK_byt _ _ Byt.nil h.byt)
  · rw [flatP_snoc, h.form, s7]
  · rw [List.length_append]; have := h.room; simp only [List.length_singleton]; omega
/-- What is packed is unpacked. -/
theorem numsP_back (B R : List Int) (x y z : Nat) (hx : x ≤ 4096) (hy : y ≤ 4096) (hz : z ≤ 4096) : numsP (B ++ (digs x ++ (digs y ++ (digs z ++ R)))) B.length = (((x : Int), (y : Int), (z : Int)), ((B ++ (digs x ++ (digs y ++ digs z))).length : Int), 0) := by
  have h0 := uintP_back B (digs y ++ (digs z ++ R)) x (by omega) (by omega)
  have h1 := uintP_back (B ++ digs x) (digs z ++ R) y (by omega) (by omega)
  have h2 := uintP_back (B ++ digs x ++ digs y) R z (by omega) (by omega)
  simp only [List.append_assoc] at h0 h1 h2
  have e1 : ((B ++ digs x).length : Int) = B.length + (digs x).length := by simp
  have e2 : ((B ++ (digs x ++ digs y)).length : Int) = B.length + (digs x).length + (digs y).length := by simp; omega
  rw [e1] at h1
  rw [e2] at h2
  have e3 : ((B ++ (digs x ++ (digs y ++ digs z))).length : Int) = B.length + (digs x).length + (digs y).length + (digs z).length := by simp; omega
  rw [e3]
  unfold numsP
  rw [h0]
  simp only
  rw [h1]
  simp only
  rw [h2]
  simp
theorem oneP_back (B R ahead : List Int) (p : Pr) (hs : ShortP p) (hr : cmpL p.1 ahead = 1) : oneP (B ++ (formP ahead p ++ R)) B.length ahead = (p, ((B ++ formP ahead p).length : Int), 0) := by
  obtain ⟨k, v⟩ := p
  obtain ⟨hk, hv⟩ := hs
  simp only at hk hv hr
  obtain ⟨n, hn⟩ : ∃ n, alike k ahead = n := ⟨_, rfl⟩
  have hle := alike_le k ahead
  have ht := alike_take k ahead
  have hd := alike_drop k ahead
  have hb := cmpL_behind k ahead
  rw [hn] at hle ht hd hb
  have hN := numsP_back B (k.drop n ++ (v ++ R)) n (k.length - n) v.length (by omega) (by omega) (by omega)
  have eL : B ++ (formP ahead (k, v) ++ R) = B ++ (digs n ++ (digs ((k.length - n : Nat) : Int) ++ (digs v.length ++ (k.drop n ++ (v ++ R))))) := by
    unfold formP
    simp only [hn, List.append_assoc]
  rw [eL]
  unfold oneP
  rw [hN]
  rw [if_neg (by simp)]
  simp only
  obtain ⟨H, hH⟩ : ∃ H, B ++ (digs n ++ (digs ((k.length - n : Nat) : Int) ++ digs v.length)) = H := ⟨_, rfl⟩
  have eH : B ++ (digs n ++ (digs ((k.length - n : Nat) : Int) ++ (digs v.length ++ (k.drop n ++ (v ++ R))))) = H ++ (k.drop n ++ (v ++ R)) := by
    rw [← hH]
    simp only [List.append_assoc]
  have eF : B ++ formP ahead (k, v) = H ++ (k.drop n ++ v) := by
    unfold formP
    rw [← hH]
    simp only [hn, List.append_assoc]
  rw [hH, eH, eF]
  have d1 : ((H ++ (k.drop n ++ (v ++ R))).drop (H.length : Int).toNat).take (((k.length - n : Nat) : Int).toNat) = k.drop n := by
    rw [Int.toNat_natCast, Int.toNat_natCast, List.drop_left]
    exact List.take_left' (by rw [List.length_drop])
  have d2 : ((H ++ (k.drop n ++ (v ++ R))).drop ((H.length : Int) + ((k.length - n : Nat) : Int)).toNat).take ((v.length : Int).toNat) = v := by
    have e : ((H.length : Int) + ((k.length - n : Nat) : Int)).toNat = (H ++ k.drop n).length := by rw [List.length_append, List.length_drop]; omega
    rw [e, ← List.append_assoc, List.drop_left, Int.toNat_natCast, List.take_left]
  unfold bodyP
  rw [d1, d2, Int.toNat_natCast, hb, hd, hr]
  rw [if_neg (by omega), if_neg (by omega), if_neg (by simp only [List.length_append, List.length_drop]; omega), if_neg (by simp)]
  rw [← ht, List.take_append_drop]
  refine Prod.ext rfl (Prod.ext ?_ rfl)
  simp only [List.length_append, List.length_drop]
  omega
theorem readF_back : ∀ (ps qs : List Pr) (f : Nat), FitP (ps ++ qs) → risesP [] (ps ++ qs) → (flatP [] (ps ++ qs)).length < (flatP [] ps).length + f → readF (flatP [] (ps ++ qs)) f (flatP [] ps).length ps = (ps ++ qs, 0)
  | ps, qs, 0, _, _, hf => by rw [flatP_append, List.length_append] at hf; omega
  | ps, [], f + 1, _, _, _ => by
    unfold readF
    rw [List.append_nil, if_pos (Nat.le_refl _)]
  | ps, p :: qs, f + 1, hF, hR, hf => by
    have hr := risesP_right [] ps (p :: qs) hR
    have hs := hF.2 p (by simp)
    have ho := oneP_back (flatP [] ps) (flatP p.1 qs) (lastK [] ps) p hs hr.1
    have ef : flatP [] (ps ++ p :: qs) = flatP [] ps ++ (formP (lastK [] ps) p ++ flatP p.1 qs) := by rw [flatP_append]; rfl
    have hp := formP_len (lastK [] ps) p hs
    have hm := hF.1
    rw [List.length_append, List.length_cons] at hm
    have es : (ps ++ [p]) ++ qs = ps ++ p :: qs := by simp
    have ih := readF_back (ps ++ [p]) qs f (by rw [es]; exact hF) (by rw [es]; exact hR) (by
      rw [es, flatP_snoc, List.length_append]
      omega)
    rw [es, flatP_snoc] at ih
    rw [← ef] at ho
    unfold readF
    rw [if_neg (by rw [ef]; simp only [List.length_append]; omega), ho]
    simp only [ne_eq, not_true_eq_false, if_false]
    rw [if_neg (by omega), Int.toNat_natCast]
    exact ih
theorem readP_back {l : List Pr} (h : FitP l) (g : risesP [] l) : readP (flatP [] l) = (l, 0) := by
  have := readF_back [] l ((flatP [] l).length + 1) h g (by simp only [List.nil_append, flatP, List.length_nil]; omega)
  show readF (flatP [] l) ((flatP [] l).length + 1) 0 [] = _
  simpa only [flatP, List.nil_append, List.length_nil] using this
/-- What is unpacked is packed as it was. -/
theorem readF_form (L : List Int) (hB : Byt L) : ∀ (f a : Nat) (ps l : List Pr), LeftB L ps a → L.length < a + f → readF L f a ps = readP L → readP L = (l, 0) → LeftB L l L.length
  | 0, a, ps, l, h, hf, _, _ => by have := h.le; omega
  | f + 1, a, ps, l, h, hf, he, hl => by
    by_cases h1 : L.length ≤ a
    · have e := h.end_ h1
      rw [hl] at e
      obtain rfl : l = ps := (Prod.mk.inj e).1
      obtain rfl : a = L.length := by have := h.le; omega
      exact h
    · by_cases h2 : (oneP L a (lastK [] ps)).2.2 = 0
      · by_cases h3 : 4096 ≤ ps.length
        · have e := h.many (by omega) h2 h3
          rw [hl] at e
          exact absurd (Prod.mk.inj e).2 (by decide)
        · obtain ⟨e, e1, e2, e3, e4⟩ := h.step hB (by omega) h2 (by omega)
          have he' := he
          unfold readF at he'
          rw [if_neg (by omega), if_neg (by simpa using h2), if_neg h3, e1, Int.toNat_natCast] at he'
          exact readF_form L hB f e _ l e4 (by omega) he' hl
      · have e := h.bad (by omega) h2
        rw [hl] at e
        exact absurd (Prod.mk.inj e).2.symm h2
theorem readP_form {L : List Int} {l : List Pr} (hB : Byt L) (h : readP L = (l, 0)) : LeftB L l L.length := readF_form L hB (L.length + 1) 0 [] l (LeftB.start L) (by omega) rfl h
end Go.Proofs.YtmgggddnfeojmaaGreat
namespace Go.Proofs.YtmgggddnfeojmaaGreat
open Go.RowKit
/-- A text's bytes as numbers. -/
def nums (s : ByteArray) : List Int := s.data.toList.map fun b => (b.toNat : Int)
theorem nums_len (s : ByteArray) : (nums s).length = s.size := by simp [nums]
theorem nums_of_str (L : List Int) (h : Byt L) : nums (strOfNums L) = L := by
  unfold strOfNums nums
  simp only [List.map_map]
  conv => rhs; rw [← List.map_id L]
  refine List.map_congr_left fun x hx => ?_
  obtain ⟨h0, h1⟩ := h x hx
  simp only [Function.comp, id]
  have : (UInt8.ofNat x.toNat).toNat = x.toNat := by
    rw [UInt8.toNat_ofNat']
    omega
  omega
theorem nums_get (s : ByteArray) (k : Nat) (h : k < s.size) : (nums s)[k]? = some ((s[k].toNat : Nat) : Int) := by
  have : s.data.toList[k]? = some s[k] := by
    rw [Array.getElem?_toList, Array.getElem?_eq_getElem h]
    rfl
  simp [nums, this]
theorem str_of_inj {L M : List Int} (hL : Byt L) (hM : Byt M) : strOfNums L = strOfNums M ↔ L = M :=
  ⟨fun h => by rw [← nums_of_str L hL, ← nums_of_str M hM, h], fun h => by rw [h]⟩
/-- A pair as it lies. -/
structure Bp where
  k : Sl
  v : Sl
def Bp.val (q : Bp) : Value := .agg #[q.k.val, q.v.val]
def Bp.cells (q : Bp) : List Value := [q.k.val, q.v.val]
/-- What is read of a pair. -/
def Bp.rd (q : Bp) : Pr := (q.k.l, q.v.l)
def rds (l : List Bp) : List Pr := l.map Bp.rd
theorem rds_len (l : List Bp) : (rds l).length = l.length := by simp [rds]
theorem rds_append (l m : List Bp) : rds (l ++ m) = rds l ++ rds m := by simp [rds]
theorem rds_get {l : List Bp} {j : Nat} {q : Bp} (h : l[j]? = some q) : (rds l)[j]? = some q.rd := by simp [rds, h]
def pvals (l : List Bp) : List Value := l.flatMap Bp.cells
theorem pvals_len : ∀ l : List Bp, (pvals l).length = l.length * 2
  | [] => rfl
  | q :: l => by
    have := pvals_len l
    unfold pvals at this ⊢
    rw [List.flatMap_cons, List.length_append, this]
    simp [Bp.cells]
    omega
theorem pvals_append (l m : List Bp) : pvals (l ++ m) = pvals l ++ pvals m := by simp [pvals]
theorem pvals_get : ∀ (l : List Bp) (j : Nat) (q : Bp), l[j]? = some q → (pvals l)[j * 2]? = some q.k.val ∧ (pvals l)[j * 2 + 1]? = some q.v.val
  | [], _, _, h => by simp at h
  | p :: l, 0, q, h => by
    simp at h
    subst h
    exact ⟨rfl, rfl⟩
  | p :: l, j + 1, q, h => by
    have ih := pvals_get l j q (by simpa using h)
    have e : pvals (p :: l) = p.k.val :: p.v.val :: pvals l := rfl
    rw [e]
    have e0 : (j + 1) * 2 = j * 2 + 1 + 1 := by omega
    rw [e0]
    refine ⟨by simpa using ih.1, ?_⟩
    rw [show j * 2 + 1 + 1 + 1 = (j * 2 + 1) + 1 + 1 by omega]
    simpa using ih.2
theorem pvals_one {l : List Bp} : ∀ u ∈ pvals l, u.oneCell' = true := fun u hu => by
  obtain ⟨q, -, h⟩ := List.mem_flatMap.1 hu
  simp [Bp.cells] at h
  rcases h with rfl | rfl <;> rfl
/-- The cells of one pair, as a walk spells them. -/
def AtP (w : World) (E : Addr) (q : Bp) : Prop := w.cell? E = some (.slice q.k.a q.k.l.length q.k.c) ∧ w.cell? ⟨E.block, E.off + 1, none⟩ = some (.slice q.v.a q.v.l.length q.v.c)
theorem lies_pair {w : World} {A : Option Addr} {l : List Bp} {j : Nat} {q : Bp} (h : Lies w A (pvals l)) (hq : l[j]? = some q) : ∃ ad, A = some ad ∧ AtP w (ad.add (j * 2)) q := by
  obtain ⟨h0, h1⟩ := pvals_get l j q hq
  rcases h with h | ⟨ad, rfl, h2⟩
  · rw [h] at h0
    simp at h0
  · refine ⟨ad, rfl, ?_, ?_⟩
    · simpa [Sl.val] using h2 _ _ h0
    · have := h2 _ _ h1
      rw [← add_add] at this
      simpa [Addr.add, Sl.val] using this
theorem below_drewN {B : Nat} {a w : World} (h : Below B a w) (n : Nat) : Below B a (w.drewN n) := ⟨h.os, h.tape, h.output, h.size, h.block⟩
theorem Lies.alloc {w : World} {A : Option Addr} {xs : List Value} (h : Lies w A xs) (o : Obj) : Lies (w.alloc o) A xs := h.kept (below_new w o)
theorem info144 : (Tryz.prog.info? 144).map (fun i => (i.zero, i.size, i.bytes)) = some (some (.agg #[.slice none 0 0, .slice none 0 0]), 2, 48) := by kernel_rfl
/-- A row of pairs of the call's own, or nil. -/
def Prow (w : World) (B : Nat) (A : Option Addr) (c : Nat) (l : List Bp) : Prop := w.ownsRow B 144 2 (.slice A l.length c) l.length (pvals l)
theorem Prow.nil (w : World) (B : Nat) : Prow w B none 0 [] := World.ownsRow_nil w B _ _
theorem Prow.lies {w : World} {B : Nat} {A : Option Addr} {c : Nat} {l : List Bp} (h : Prow w B A c l) : Lies w A (pvals l) := by
  rcases h.2 with ⟨_, h⟩ | ⟨g, cap, cur, e, _⟩
  · exact .inl (by rw [List.eq_nil_of_length_eq_zero h]; rfl)
  · injection e with e1 e2 e3
    subst e1
    exact .inr ⟨_, rfl, fun j u hu => World.ownsRow.cells h (g := g) rfl j u hu⟩
theorem Prow.kept {w w' : World} {B C : Nat} {A : Option Addr} {c : Nat} {l : List Bp} (h : Prow w B A c l) (hb : Below C w w') (hC : w.heap.size ≤ C) : Prow w' B A c l := own_kept h hb hC
theorem Prow.mono {w : World} {B C : Nat} {A : Option Addr} {c : Nat} {l : List Bp} (h : Prow w B A c l) (hC : C ≤ B) : Prow w C A c l := own_mono h hC
theorem Prow.alloc {w : World} {B : Nat} {A : Option Addr} {c : Nat} {l : List Bp} (h : Prow w B A c l) (o : Obj) : Prow (w.alloc o) B A c l := h.kept (below_new w o) (Nat.le_refl _)
theorem run_append_prow (w : World) (ty : TypeId) (B : Nat) (A : Option Addr) (c : Nat) (T U : List Bp) (C : Option Addr) (cm : Nat) (h : Prow w B A c T) (hm : Lies w C (pvals U)) (hB : B ≤ w.heap.size) (hr : (T.length + U.length) * 48 ≤ 140737488355328) :
    ∃ A' c' w', (Builtin.append_ #[141, 141] ty #[.slice A T.length c, .slice C U.length cm]).run Tryz.prog w = .ok (.slice A' (T.length + U.length) c') w' ∧ Prow w' B A' c' (T ++ U) ∧ Below B w w' ∧ w.grownBy w' (Value.slice A T.length c).ownBlock := by
  obtain ⟨i, hi, hz0, hz1, hz2⟩ := info_parts info144
  obtain ⟨A', c', w', r, h2, h3, h4⟩ := run_append_grown (P := Tryz.prog) w 141 ty 144 i (.agg #[.slice none 0 0, .slice none 0 0]) 2 48 Tryz.underlying141 hi hz0 hz1 hz2 rfl (by decide) B A T.length c (pvals T) h C U.length cm (pvals U) (by rw [pvals_len]) hm pvals_one (by unfold maxLen; omega) hr hB
  rw [← pvals_append] at h2
  exact ⟨A', c', w', r, by unfold Prow; rw [List.length_append]; exact h2, h3, h4⟩
/-- An append of pairs, as a step of a region that draws. -/
theorem step_append_prow (w : World) {ops : Array Oper} {o : Oper} {a : Act} {K : Act → World → Prop} {Q : Exit → Act → World → Prop} {E : Prop} (hgd : o.guard = none) (s x : Operand)
    (ho : o.op = .call { callee := .builtin .append, args := #[s, x], argTypes := #[141, 141] })
    (B : Nat) (A : Option Addr) (c : Nat) (T U : List Bp) (C : Option Addr) (n m cm : Nat) (hs : a.eval s = .slice A n c) (hx : a.eval x = .slice C m cm) (en : T.length = n) (em : U.length = m) (h : Prow w B A c T) (hm : Lies w C (pvals U)) (hB : B ≤ w.heap.size) (hr : (T.length + U.length) * 48 ≤ 140737488355328)
    (k : ∀ A' c' w', Prow w' B A' c' (T ++ U) → Below B w w' → w.grownBy w' (Value.slice A n c).ownBlock → K (a.put o.dst (.slice A' (n + m) c')) w') : if Region.wanted o (yielded ops a.tmps) = true then Oper.wp Tryz.prog o a w K Q else E := by
  have hw : Region.wanted o (yielded ops a.tmps) = true := by simp [Region.wanted, hgd]
  rw [if_pos hw]
  subst en
  subst em
  obtain ⟨A', c', w', r, h2, h3, h4⟩ := run_append_prow w o.type B A c T U C cm h hm hB hr
  have k' := k A' c' w' h2 h3 h4
  unfold Oper.wp execOp
  simp only [ho, resolve, invoke, builtin, Sem.run_bind, Sem.run_pure, Result.andThen_ok, List.map_toArray, List.map_cons, List.map_nil, hs, hx, r]
  exact k'
/-- What an append onto a row of pairs lets be: rows of bytes. -/
theorem Row.besideP {w w' : World} {B D : Nat} {A C : Option Addr} {c d : Nat} {L : List Int} {T : List Bp} (h : Row w B A c L) (hs : Prow w D C d T) (hg : w.grownBy w' (Value.slice C T.length d).ownBlock) : Row w' B A c L := by
  refine ⟨h.1, ?_⟩
  rcases h.2 with hn | ⟨g, cap, cur, e1, h1, h2, h3⟩
  · exact .inl hn
  · refine .inr ⟨g, cap, cur, e1, h1, ?_, h3⟩
    have hlt : g < w.heap.size := (Array.getElem?_eq_some_iff.1 h2).1
    rw [hg.block g hlt, h2]
    intro e
    rcases hs.2 with ⟨hn, _⟩ | ⟨g', cap', cur', e', _, h2', _⟩
    · rw [hn] at e
      simp [Value.ownBlock] at e
    · rw [e'] at e
      obtain rfl : g = g' := by simpa [Value.ownBlock] using e
      rw [h2] at h2'
      injection h2' with h2'
      injection h2' with _ h2'
      exact absurd h2' (by decide)
/-- Pairs whose bytes are rows of the call's own. -/
def Mades (w : World) (B : Nat) (l : List Bp) : Prop := ∀ q ∈ l, Row w B q.k.a q.k.c q.k.l ∧ Row w B q.v.a q.v.c q.v.l
theorem Mades.nil (w : World) (B : Nat) : Mades w B [] := fun _ h => by cases h
theorem Mades.kept {w w' : World} {B C : Nat} {l : List Bp} (h : Mades w B l) (hb : Below C w w') (hC : w.heap.size ≤ C) : Mades w' B l := fun q hq => ⟨(h q hq).1.kept hb hC, (h q hq).2.kept hb hC⟩
theorem Mades.mono {w : World} {B C : Nat} {l : List Bp} (h : Mades w B l) (hC : C ≤ B) : Mades w C l := fun q hq => ⟨(h q hq).1.mono hC, (h q hq).2.mono hC⟩
theorem Mades.snoc {w : World} {B : Nat} {l : List Bp} {q : Bp} (h : Mades w B l) (hk : Row w B q.k.a q.k.c q.k.l) (hv : Row w B q.v.a q.v.c q.v.l) : Mades w B (l ++ [q]) := fun x hx => by
  rcases List.mem_append.1 hx with hx | hx
  · exact h x hx
  · rw [List.mem_singleton] at hx
    subst hx
    exact ⟨hk, hv⟩
theorem Mades.besideP {w w' : World} {B D : Nat} {C : Option Addr} {d : Nat} {l T : List Bp} (h : Mades w B l) (hs : Prow w D C d T) (hg : w.grownBy w' (Value.slice C T.length d).ownBlock) : Mades w' B l := fun q hq => ⟨(h q hq).1.besideP hs hg, (h q hq).2.besideP hs hg⟩
/-- Pairs that can be read. -/
def Ins (w : World) (l : List Bp) : Prop := ∀ q ∈ l, In w q.k.a q.k.l q.k.l.length q.k.c ∧ In w q.v.a q.v.l q.v.l.length q.v.c
theorem Ins.nil (w : World) : Ins w [] := fun _ h => by cases h
theorem Ins.kept {w w' : World} {l : List Bp} (h : Ins w l) (hb : Below w.heap.size w w') : Ins w' l := fun q hq => ⟨(h q hq).1.kept hb, (h q hq).2.kept hb⟩
theorem Ins.byt {w : World} {l : List Bp} (h : Ins w l) : ∀ p ∈ rds l, PrB p := fun p hp => by
  obtain ⟨q, hq, rfl⟩ := List.mem_map.1 hp
  exact ⟨(h q hq).1.byt, (h q hq).2.byt⟩
theorem Mades.ins {w : World} {B : Nat} {l : List Bp} (h : Mades w B l) (hB : ∀ p ∈ rds l, PrB p) : Ins w l := fun q hq => ⟨(h q hq).1.in_ (hB _ (List.mem_map_of_mem hq)).1, (h q hq).2.in_ (hB _ (List.mem_map_of_mem hq)).2⟩
theorem ret_slice {A : Option Addr} {n m c : Nat} (h : n = m) : Ending.returned (.slice A n c) = .returned (.slice A m c) := by rw [h]
theorem lit_pair (w : World) (kA vA : Option Addr) (kc vc : Nat) (kl vl : List Int) (n m : Nat) (hn : kl.length = n) (hm : vl.length = m) : Lies (w.alloc (.cells #[.slice kA n kc, .slice vA m vc] 144)) (some ⟨w.heap.size, 0, none⟩) (pvals [⟨⟨kA, kc, kl⟩, ⟨vA, vc, vl⟩⟩]) := by
  subst hn
  subst hm
  exact lit_lies w _ _ rfl _
end Go.Proofs.YtmgggddnfeojmaaGreat
namespace Go.Proofs.YtmgggddnfeojmaaGreat
theorem or128 : ∀ n : Fin 256, bits .or .u8 128 (n.val : Int) = (n.val : Int) % 128 + 128 := by decide +kernel
theorem or_mark (u : Int) : bits .or .u8 128 (u % 256) = u % 128 + 128 := by
  have h := or128 ⟨(u % 256).toNat, by omega⟩
  have e : (((u % 256).toNat : Nat) : Int) = u % 256 := by omega
  simp only [e] at h
  rw [h]
  omega
theorem or_join (a d : Int) (i : Nat) (hi : i ≤ 9) (a0 : 0 ≤ a) (a1 : a < 128 ^ i) (d0 : 0 ≤ d) (d1 : d * 128 ^ i ≤ 18446744073709551615) : bits .or .u64 a (d * 128 ^ i) = a + d * 128 ^ i := by
  obtain ⟨A, rfl⟩ := Int.eq_ofNat_of_zero_le a0
  obtain ⟨D, rfl⟩ := Int.eq_ofNat_of_zero_le d0
  have e : (D : Int) * 128 ^ i = ((D * 128 ^ i : Nat) : Int) := by simp
  have e2 : (128 : Nat) ^ i = 2 ^ (7 * i) := by rw [Nat.pow_mul]
  have a2 : A < 128 ^ i := by exact_mod_cast a1
  rw [e] at d1 ⊢
  have hp : (128 : Nat) ^ i ≤ 9223372036854775808 := by
    have h := (pow_in i hi).2
    have e3 : (128 : Int) ^ i = ((128 ^ i : Nat) : Int) := by simp
    rw [e3] at h
    omega
  rw [u64_or_nat A (D * 128 ^ i) (by omega) (by omega), Nat.or_comm, nat_join (7 * i) (D * 128 ^ i) A (by rw [← e2]; exact Nat.mul_mod_left _ _) (by rw [← e2]; exact a2)]
  omega
theorem and_one (x : Int) (h0 : 0 ≤ x) (h1 : x ≤ 18446744073709551615) : bits .and .u64 x 1 = x % 2 := by
  rw [u64_and x 1 h0 (by omega) (by omega) (by omega)]
  have : x.toNat &&& (1 : Int).toNat = x.toNat % 2 := Nat.and_one_is_mod x.toNat
  rw [this]
  omega
end Go.Proofs.YtmgggddnfeojmaaGreat
namespace Go.Proofs.YtmgggddnfeojmaaGreat
open Go.RowKit
theorem ret_int {k : IntKind} {a b : Int} (h : a = b) : Ending.returned (.int k a) = .returned (.int k b) := by rw [h]
/-- A new slice with bytes L. -/
def New (w : World) (L : List Int) (e : Ending) (w' : World) : Prop :=
  ∃ g c, e = .returned (.slice (some ⟨g, 0, none⟩) L.length c) ∧ Mine w' w.heap.size g c L ∧ Below w.heap.size w w'
/-- The form of v, as it lies in the array that the call made. -/
def Formed (w : World) (v : Int) (e : Ending) (w' : World) : Prop :=
  ∃ g, e = .returned (.slice (some ⟨g, 0, none⟩) (digs v).length (digs v).length) ∧ Bys w' (some ⟨g, 0, none⟩) (digs v) ∧ Below w.heap.size w w'
theorem int_eq {k : IntKind} {a b : Int} (h : a = b) : Value.int k a = .int k b := by rw [h]
theorem slice_ten (w : World) (b n : Nat) (hn : n < 10) : (Instr.sliceAt 164 (.pointer (some ⟨b, 0, none⟩)) none (some (.int .i64 ((n : Int) + 1))) (some (.int .i64 ((n : Int) + 1)))).run Tryz.prog w = .ok (.slice (some ⟨b, 0, none⟩) (n + 1) (n + 1)) w := by
  have e : Tryz.prog.arrayLen 164 = 10 := by kernel_rfl
  have z : (sizeOf (Tryz.prog.elem 164)).run Tryz.prog w = .ok 1 w := by
    have h : Tryz.prog.elem 164 = 5 := by kernel_rfl
    obtain ⟨i, hi, hz0, hz1, hz2⟩ := info_parts info5
    rw [h]
    simp [sizeOf, typeInfo, hi, hz1]
  rw [run_sliceAt_array_hm (P := Tryz.prog) w 164 ⟨b, 0, none⟩ (by kernel_rfl) .i64 .i64 ((n : Int) + 1) ((n : Int) + 1) (by omega) (by omega) (by rw [e]; omega), z]
  have en : ((n : Int) + 1).toNat = n + 1 := by omega
  rw [en]
  simp [Result.andThen, slicedAt, Addr.add]
theorem getD_snoc (P : List Int) (x : Int) (j : Nat) : (P ++ [x]).getD j 0 = if j = P.length then x else P.getD j 0 := by
  simp only [List.getD_eq_getElem?_getD]
  by_cases h : j < P.length
  · rw [List.getElem?_append_left h, if_neg (by omega)]
  · rw [List.getElem?_append_right (by omega)]
    by_cases e : j = P.length
    · subst e; simp
    · rw [if_neg e, List.getElem?_eq_none (by simp; omega), List.getElem?_eq_none (by omega)]
set_option maxRecDepth 100000 in
set_option maxHeartbeats 1000000 in
theorem form_any (v : Int) (w : World) (h0 : 0 ≤ v) (h1 : v ≤ 18446744073709551615) :
    Calls Tryz.prog 85 #[.int .u64 v] w (Formed w v) := by
  have H0 := Lib.hid h0
  have H1 := Lib.hid h1
  clear h0 h1
  go_enter Tryz.func85, Tryz.ntmps85
  go_wp2_with fail
  go_loopw [0, 4] (fun t0 t4 wr => ∃ (P : List Int) (f : Nat) (u : Int), P.length + f = 9 ∧ t0 = .int .u64 u ∧ t4 = .int .i64 P.length ∧ 0 ≤ u ∧ u < 128 ^ (f + 1) ∧ u ≤ 18446744073709551615 ∧ Hid (P ++ digsF f u = digs v) ∧ Hid (wr.rowIs w.heap.size 164 10 (fun j => .int .u8 (P.getD j 0))) ∧ Hid (Below w.heap.size w wr)) (fun _ t4 _ => 10 - (intOf t4).toNat)
  case atStart =>
    refine ⟨[], 9, v, rfl, rfl, rfl, H0.out, by have := H1.out; omega, H1.out, Lib.hid rfl, Lib.hid ?_, Lib.hid (below_new w _)⟩
    exact World.rowIs_alloc w #[.int .u8 0, .int .u8 0, .int .u8 0, .int .u8 0, .int .u8 0, .int .u8 0, .int .u8 0, .int .u8 0, .int .u8 0, .int .u8 0] 164 _ (fun i hi => by
      have hi : i < 10 := hi
      have : i = 0 ∨ i = 1 ∨ i = 2 ∨ i = 3 ∨ i = 4 ∨ i = 5 ∨ i = 6 ∨ i = 7 ∨ i = 8 ∨ i = 9 := by omega
      rcases this with rfl | rfl | rfl | rfl | rfl | rfl | rfl | rfl | rfl | rfl <;> rfl)
  case round =>
    obtain ⟨P, f, u, hf, rfl, rfl, u0, u1, u2, hp, hr, hb⟩ := hrel
    have r1 := hr.out
    have c1 := r1.cell (i := P.length) (by omega)
    have f1 := r1.frozen P.length
    clear r1
    obtain ⟨n, hn⟩ : ∃ n, P.length = n := ⟨_, rfl⟩
    have HN := Lib.hid hn
    have n9 : n ≤ 9 := by omega
    rw [hn] at c1 f1 hf ⊢
    clear hn
    have i0 : (0 : Int) ≤ n := by omega
    have i1 : (n : Int) < 10 := by omega
    have i2 : (n : Int) + 1 ≤ 10 := by omega
    by_cases hlt : u < 128
    · have e1 : IntKind.u8.wrap u = u := by rw [IntKind.wrap_u8]; omega
      have hsl := fun W => slice_ten W w.heap.size n (by omega)
      go_wp2
      go_ret
      have hP := HN.out
      have hd : digs v = P ++ [u] := by rw [← hp.out, digsF_low _ _ hlt]
      refine ⟨w.heap.size, by rw [hd]; simp [hP], ?_, hb.out.setCell (Nat.le_refl _) _⟩
      rw [hd]
      refine .inr ⟨_, rfl, fun j x hx => ?_⟩
      rw [add_head]
      have hj : j < n + 1 := by
        have := (List.getElem?_eq_some_iff.1 hx).1
        simp at this
        omega
      rw [(hr.out.set n (.int .u8 u)).cell (i := j) (by omega)]
      have : (P ++ [u]).getD j 0 = x := by rw [List.getD_eq_getElem?_getD, hx]; rfl
      rw [← this, getD_snoc, hP]
      split <;> rfl
    · have e1 : IntKind.u8.wrap u = u % 256 := by rw [IntKind.wrap_u8]
      have e2 := or_mark u
      go_wp2
      go_roundw
      case rel =>
        obtain ⟨f', rfl⟩ : ∃ f', f = f' + 1 := ⟨f - 1, by
          have : f ≠ 0 := fun e => by subst e; omega
          omega⟩
        have hP := HN.out
        refine ⟨P ++ [u % 128 + 128], f', u / 128, by simp; omega, rfl, int_eq (by simp; omega), by omega, ?_, by omega, Lib.hid ?_, Lib.hid ((hr.out.set n _).congr fun j _ => ?_), Lib.hid (hb.out.setCell (Nat.le_refl _) _)⟩
        · rw [Int.pow_succ] at u1
          generalize (128 : Int) ^ (f' + 1) = Q at *
          omega
        · rw [List.append_assoc, List.singleton_append, ← digsF_high _ _ hlt, hp.out]
        · rw [getD_snoc, hP]
          split <;> rfl
      case measure => simp [intOf]; omega
end Go.Proofs.YtmgggddnfeojmaaGreat
namespace Go.Proofs.YtmgggddnfeojmaaGreat
open Go.RowKit
/-- Pieces, as slices that lie one behind the other. -/
def Pieces (w : World) (g : Nat) (Ls : List (List Int)) : Prop :=
  ∀ i L, Ls[i]? = some L → ∃ A c, w.cell? ⟨g, i, none⟩ = some (.slice A L.length c) ∧ Bys w A L
theorem Pieces.kept {w w' : World} {g : Nat} {Ls : List (List Int)} (h : Pieces w g Ls) (hb : Below w.heap.size w w') : Pieces w' g Ls := fun i L hi => by
  obtain ⟨A, c, h1, h2⟩ := h i L hi
  refine ⟨A, c, ?_, h2.kept hb⟩
  rw [hb.cell (World.block_lt_of_cell? w _ h1)]
  exact h1
theorem flat_succ {Ls : List (List Int)} {i : Nat} {L : List Int} (h : Ls[i]? = some L) : (Ls.take (i + 1)).flatten = (Ls.take i).flatten ++ L := by
  rw [List.take_add_one, List.flatten_append, h]
  simp
theorem flat_le {Ls : List (List Int)} {i : Nat} : (Ls.take i).flatten.length ≤ Ls.flatten.length := by
  have : Ls.flatten = (Ls.take i).flatten ++ (Ls.drop i).flatten := by rw [← List.flatten_append, List.take_append_drop]
  rw [this]
  simp
set_option maxRecDepth 100000 in
set_option maxHeartbeats 1000000 in
theorem joined_any (g n c : Nat) (Ls : List (List Int)) (w : World) (hn : Ls.length = n) (n9 : n ≤ 9) (h : Pieces w g Ls) (hl : Ls.flatten.length ≤ 281474976710656) :
    Calls Tryz.prog 84 #[.slice (some ⟨g, 0, none⟩) n c] w (New w Ls.flatten) := by
  have HP := Lib.hid h
  have HL := Lib.hid hl
  have HN := Lib.hid hn
  clear h hl hn
  go_enter Tryz.func84, Tryz.ntmps84
  go_wp2_with fail
  go_loop [3, 11] (fun t3 t11 => ∃ i : Nat, i ≤ n ∧ t3 = .int .i64 ((Ls.take i).flatten.length : Int) ∧ t11 = .int .i64 i) (fun _ t11 => n - (intOf t11).toNat)
  case atStart => exact ⟨0, by omega, rfl, rfl⟩
  case round =>
    obtain ⟨i, hi, rfl, rfl⟩ := hrel
    by_cases hlt : i < n
    · obtain ⟨L, hL⟩ : ∃ L, Ls[i]? = some L := ⟨Ls[i]'(by have := HN.out; omega), List.getElem?_eq_getElem _⟩
      obtain ⟨A, cL, c1, hB⟩ := HP.out i L hL
      have fs := flat_succ hL
      have fl := flat_le (Ls := Ls) (i := i + 1)
      have HLl := HL.out
      rw [fs, List.length_append] at fl
      have FSs := Lib.hid fs
      obtain ⟨m, hm⟩ : ∃ m, L.length = m := ⟨_, rfl⟩
      have HM := Lib.hid hm
      rw [hm] at c1 fl
      obtain ⟨s, hs⟩ : ∃ s, (Ls.take i).flatten.length = s := ⟨_, rfl⟩
      have HS := Lib.hid hs
      rw [hs] at fl ⊢
      have b1 : (s : Int) + m ≤ 281474976710656 := by omega
      have hij : (i : Int) < n := by omega
      clear hL hB fs hm hs fl HLl
      go_wp2_with fail
      go_round
      case rel => exact ⟨i + 1, by omega, int_eq (by rw [FSs.out, List.length_append, HM.out, HS.out]; omega), by go_num⟩
      case measure => simp [intOf]; omega
    · obtain rfl : i = n := by omega
      have hall : (Ls.take i).flatten = Ls.flatten := by rw [← HN.out, List.take_length]
      rw [hall]
      clear hall
      obtain ⟨S, hS⟩ : ∃ S, Ls.flatten.length = S := ⟨_, rfl⟩
      have HS := Lib.hid hS
      rw [hS]
      clear hS
      go_wp2_with (at_make; refine wpList_make_mine _ rfl _ _ rfl S rfl rfl (by rw [← HS.out]; exact HL.out) ?_; intro w1 m1 b1 s1; have M1 := Lib.hid m1; have B1 := Lib.hid b1; have P1 := Lib.hid (HP.out.kept b1); clear m1 b1 s1)
      go_loopw [6, 24] (fun t6 t24 wr => ∃ k : Nat, k ≤ i ∧ t24 = .int .i64 k ∧ t6 = .slice (some ⟨w.heap.size, 0, none⟩) (Ls.take k).flatten.length S ∧ Hid (Mine wr w.heap.size w.heap.size S (Ls.take k).flatten) ∧ Hid (Below w.heap.size w wr)) (fun _ t24 _ => i - (intOf t24).toNat)
      case atStart => exact ⟨0, by omega, rfl, rfl, M1, B1⟩
      case round =>
        obtain ⟨k, hk, rfl, rfl, hM, hBl⟩ := hrel
        by_cases hlk : k < i
        · obtain ⟨L, hL⟩ : ∃ L, Ls[k]? = some L := ⟨Ls[k]'(by have := HN.out; omega), List.getElem?_eq_getElem _⟩
          obtain ⟨A, cL, c1, hB⟩ := (HP.out.kept hBl.out) k L hL
          have HB := Lib.hid hB
          have fs := flat_succ hL
          have fl := flat_le (Ls := Ls) (i := k + 1)
          rw [fs, List.length_append, HS.out] at fl
          have FSs := Lib.hid fs
          have FL := Lib.hid fl
          have SZ := Lib.hid hBl.out.size
          have hkj : (k : Int) < i := by omega
          obtain ⟨m, hm⟩ : ∃ m, L.length = m := ⟨_, rfl⟩
          have HM := Lib.hid hm
          rw [hm] at c1
          clear hL hB fs fl hm M1 B1 P1
          go_wp2_with (at_builtin; refine wpList_append_mine _ rfl (.tmp 28) (.tmp 29) rfl w.heap.size w.heap.size S (Ls.take k).flatten L A _ m cL rfl rfl rfl HM.out hM.out HB.out SZ.out (.inl FL.out) ?_; intro g' c' w' m1 m2 m3; obtain ⟨rfl, rfl⟩ := m3 FL.out; have M2 := Lib.hid m1; have B2 := Lib.hid (hBl.out.grown m2 SZ.out (fun k hk => by injection hk with hk; omega)); clear m1 m2 m3)
          go_roundw
          case rel => exact ⟨k + 1, by omega, by go_num, by rw [FSs.out]; simp, by rw [FSs.out]; exact M2, B2⟩
          case measure => simp [intOf]; omega
        · obtain rfl : k = i := by omega
          have hall : (Ls.take k).flatten = Ls.flatten := by rw [← HN.out, List.take_length]
          rw [hall] at hM ⊢
          clear hall
          go_wp2_with fail
          go_ret
          exact ⟨w.heap.size, S, by simp, hM.out, hBl.out⟩
theorem pieces_two {w : World} {A C : Option Addr} {L M : List Int} {n m c d : Nat} (hn : L.length = n) (hm : M.length = m) (h : Bys w A L) (k : Bys w C M) :
    Pieces (w.alloc (.cells #[.slice A n c, .slice C m d] 42)) w.heap.size [L, M] := fun i X hi => by
  subst hn
  subst hm
  match i, hi with
  | 0, hi =>
    obtain rfl : L = X := by simpa using hi
    exact ⟨A, c, cell_of_row _ _ 0 _ _ _ (heap_alloc_new w _), h.alloc _⟩
  | 1, hi =>
    obtain rfl : M = X := by simpa using hi
    exact ⟨C, d, cell_of_row _ _ 1 _ _ _ (heap_alloc_new w _), k.alloc _⟩
  | i + 2, hi => simp at hi
/-- What a call answers behind an allocation of its caller. -/
theorem New.later {w w1 w2 : World} {L M : List Int} {e : Ending} {o : Obj} (h : New (w1.alloc o) L e w2) (hb : Below w.heap.size w w1) (he : L = M) : New w M e w2 := by
  subst he
  obtain ⟨g, c, rfl, h1, h2⟩ := h
  have hs : w.heap.size ≤ (w1.alloc o).heap.size := by have := hb.size; rw [World.size_alloc]; omega
  exact ⟨g, c, rfl, h1.mono hs, (hb.alloc hb.size o).trans (h2.mono hs)⟩
set_option maxRecDepth 100000 in
theorem appendUint_any (A : Option Addr) (L : List Int) (n c : Nat) (v : Int) (w : World) (hn : L.length = n) (h : Bys w A L) (h0 : 0 ≤ v) (h1 : v ≤ 18446744073709551615) (hl : L.length + (digs v).length ≤ 281474976710656) :
    Calls Tryz.prog 61 #[.slice A n c, .int .u64 v] w (New w (L ++ digs v)) := by
  have HB := Lib.hid h
  have HN := Lib.hid hn
  have HL := Lib.hid hl
  have HF := Lib.hid (fun w => form_any v w h0 h1)
  clear h hn hl h0 h1
  go_enter Tryz.func61, Tryz.ntmps61
  go_wp2_with (first
    | (go_at_call 85; refine (HF.out _).mono ?_; rintro e w1 ⟨g1, rfl, f1, b1⟩; have P1 := Lib.hid (pieces_two (c := c) (d := (digs v).length) HN.out rfl (HB.out.kept b1) f1); have B1 := Lib.hid b1; clear f1 b1)
    | (go_at_call 84; refine (joined_any _ 2 _ [L, digs v] _ rfl (by omega) P1.out (by simpa using HL.out)).mono ?_; rintro e w2 hw; have hw' := hw.later (M := L ++ digs v) B1.out (by simp); obtain ⟨g2, c2, rfl, m2, b2⟩ := hw'; have M2 := Lib.hid m2; have B2 := Lib.hid b2; clear hw m2 b2))
  go_ret
  exact ⟨g2, c2, by simp, M2.out, B2.out⟩
end Go.Proofs.YtmgggddnfeojmaaGreat
namespace Go.Proofs.YtmgggddnfeojmaaGreat
open Go.RowKit
/-- What a read of a number answers. -/
def ansP (R : Int × Nat × Int) (a : Nat) : Int × Int × Int := if R.2.2 = 0 then (R.1, (a : Int) + (R.2.1 : Int), 0) else (0, 0, R.2.2)
theorem uintP_in (L : List Int) (a : Nat) (h : a ≤ L.length) : uintP L a = ansP (rd 0 0 (L.drop a)) a := by
  unfold uintP ansP
  rw [if_neg (by omega)]
  simp only [Int.toNat_natCast]
theorem uintP_out (L : List Int) (at_ : Int) (h : at_ < 0 ∨ (L.length : Int) < at_) : uintP L at_ = (0, 0, 2) := by
  unfold uintP
  rw [if_pos h]
/-- One round of reading. -/
theorem rd_cons {i : Nat} {a c : Int} {t : List Int} (R : Int × Nat × Int) (h : rd i a (c :: t) = R) :
    (i = 9 ∧ 1 < c ∧ R = (0, 0, 11)) ∨ (¬ (i = 9 ∧ 1 < c) ∧ 128 ≤ c ∧ rd (i + 1) (a + c % 128 * 128 ^ i) t = R) ∨ (¬ (i = 9 ∧ 1 < c) ∧ c < 128 ∧ c = 0 ∧ 0 < i ∧ R = (0, 0, 11)) ∨ (¬ (i = 9 ∧ 1 < c) ∧ c < 128 ∧ ¬ (c = 0 ∧ 0 < i) ∧ R = (a + c % 128 * 128 ^ i, i + 1, 0)) := by
  unfold rd at h
  by_cases h9 : i = 9 ∧ 1 < c
  · rw [if_pos h9] at h; exact .inl ⟨h9.1, h9.2, h.symm⟩
  · rw [if_neg h9] at h
    by_cases hm : 128 ≤ c
    · rw [if_pos hm] at h; exact .inr (.inl ⟨h9, hm, h⟩)
    · rw [if_neg hm] at h
      by_cases hz : c = 0 ∧ 0 < i
      · rw [if_pos hz] at h; exact .inr (.inr (.inl ⟨h9, by omega, hz.1, hz.2, h.symm⟩))
      · rw [if_neg hz] at h; exact .inr (.inr (.inr ⟨h9, by omega, hz, h.symm⟩))
theorem join_eq (s d : Int) (i : Nat) (hi : i ≤ 9) (s0 : 0 ≤ s) (s1 : s < 128 ^ i) (d0 : 0 ≤ d) (d1 : d * 128 ^ i ≤ 18446744073709551615) : bits .or .u64 s (IntKind.u64.wrap (d * 2 ^ (7 * i))) = s + d * 128 ^ i := by
  have e : (2 : Int) ^ (7 * i) = 128 ^ i := by rw [Int.pow_mul]; rfl
  have p0 := (pow_in i hi).1
  have m0 : 0 ≤ d * 128 ^ i := Int.mul_nonneg d0 (by omega)
  rw [e, IntKind.wrap_u64, Int.emod_eq_of_lt m0 (by omega), or_join s d i hi s0 s1 d0 d1]
/-- What a round adds fits. -/
theorem round_fits (s x : Int) (i : Nat) (hi : i ≤ 9) (s0 : 0 ≤ s) (s1 : s < 128 ^ i) (x0 : 0 ≤ x) (x1 : x < 256) (h9 : ¬ (i = 9 ∧ 1 < x)) : x % 128 * 128 ^ i ≤ 18446744073709551615 ∧ 0 ≤ s + x % 128 * 128 ^ i ∧ s + x % 128 * 128 ^ i < 128 ^ (i + 1) := by
  obtain ⟨p0, p1⟩ := pow_in i hi
  obtain ⟨f0, f1, f2⟩ := rd_fits (x % 128) (128 ^ i) s (by omega) (by omega) p0 s0 s1
  refine ⟨?_, by omega, by rw [Int.pow_succ]; exact f2⟩
  by_cases e : i = 9
  · subst e
    have e9 : (128 : Int) ^ 9 = 9223372036854775808 := by decide
    rw [e9] at *
    omega
  · have := (pow_in (i + 1) (by omega)).2
    rw [Int.pow_succ] at this
    omega
def Ans (p : Int × Int × Int) : Ending := .returned (.tuple #[.int .u64 p.1, .int .i64 p.2.1, .int .i64 p.2.2])
set_option maxRecDepth 100000 in
theorem uint_out (A : Option Addr) (L : List Int) (n c : Nat) (at_ : Int) (w : World) (hn : L.length = n) (_hc : (n : Int) ≤ 9223372036854775807) (h : at_ < 0 ∨ (n : Int) < at_) :
    Calls Tryz.prog 91 #[.slice A n c, .int .i64 at_] w fun e w' => e = Ans (uintP L at_) ∧ w = w' := by
  rw [uintP_out L at_ (by omega)]
  clear hn
  by_cases h0 : at_ < 0
  · clear h
    go_enter Tryz.func91, Tryz.ntmps91
    go_wp2
    go_ret3
    exact ⟨rfl, rfl⟩
  · have h1 : (n : Int) < at_ := by omega
    have h0' : decide (at_ < 0) = false := by simpa using h0
    clear h
    go_enter Tryz.func91, Tryz.ntmps91
    go_wp2
    go_ret3
    exact ⟨rfl, rfl⟩
set_option maxRecDepth 100000 in
set_option maxHeartbeats 1000000 in
theorem uint_in (A : Option Addr) (L : List Int) (a k c : Nat) (w : World) (hn : L.length = a + k) (hc : a + k ≤ c) (hc2 : (c : Int) ≤ 9223372036854775807) (h : Bys w A L) (hB : Byt L) :
    Calls Tryz.prog 91 #[.slice A (a + k) c, .int .i64 (a : Int)] w fun e w' => e = Ans (uintP L a) ∧ w = w' := by
  rw [uintP_in L a (by omega)]
  obtain ⟨A', hsl, hb⟩ := slice_low h a k c hn hc
  have HB := Lib.hid hb
  have HY := Lib.hid (hB.drop a)
  have HK : Hid ((L.drop a).length = k) := Lib.hid (by simp; omega)
  generalize L.drop a = M at HB HY HK ⊢
  obtain ⟨R, hR⟩ : ∃ R, rd 0 0 M = R := ⟨_, rfl⟩
  have HR := Lib.hid hR
  rw [hR]
  have ha0 : decide ((a : Int) < 0) = false := by simp
  have ha1 : decide (((a + k : Nat) : Int) < (a : Int)) = false := by simp; omega
  have hak : (a : Int) + k ≤ 9223372036854775807 := by omega
  clear h hB hb hn hR
  go_enter Tryz.func91, Tryz.ntmps91
  go_wp2_with fail
  go_loop [7, 22] (fun t7 t22 => ∃ (i : Nat) (s : Int), i ≤ 9 ∧ i ≤ k ∧ t22 = .int .i64 i ∧ t7 = .int .u64 s ∧ 0 ≤ s ∧ s < 128 ^ i ∧ Hid (rd i s (M.drop i) = R)) (fun _ t22 => k - (intOf t22).toNat)
  case atStart => exact ⟨0, 0, by omega, by omega, rfl, rfl, Int.le_refl _, by decide, HR⟩
  case round =>
    obtain ⟨i, s, i9, hik, rfl, rfl, s0, s1, hr⟩ := hrel
    by_cases hlt : i < k
    · have hM := HK.out
      have hx := List.getElem?_eq_getElem (l := M) (i := i) (by omega)
      have hd : M.drop i = M[i]'(by omega) :: M.drop (i + 1) := List.drop_eq_getElem_cons (by omega)
      obtain ⟨x0, x1⟩ := HY.out _ (List.getElem_mem (l := M) (n := i) (by omega))
      have hr' := hr.out
      rw [hd] at hr'
      generalize M[i]'(by omega) = x at hx hr' x0 x1
      obtain ⟨ad, rfl, hcell⟩ := HB.out.resolve_left (fun e => by subst e; simp at hM; omega)
      have c1 := hcell i x hx
      have hcase := rd_cons R hr'
      have hij : (i : Int) < k := by omega
      clear hr' hcell hd hx hr
      obtain ⟨q0, q1, q2⟩ : _ ∧ _ ∧ _ := ⟨x0, x1, hij⟩
      rcases hcase with ⟨e9, h1, rfl⟩ | ⟨h9, hm, hr2⟩ | ⟨h9, hm, rfl, hz, rfl⟩ | ⟨h9, hm, hz, rfl⟩
      · have e9' : ((i : Int) == 9) = true := by simp; omega
        clear e9
        go_wp2
        go_ret3
        exact ⟨rfl, rfl⟩
      · have hi9 : i ≠ 9 := fun e => h9 ⟨e, by omega⟩
        have hi9' : ((i : Int) == 9) = false := by simp; omega
        obtain ⟨f0, f1, f2⟩ := round_fits s x i i9 s0 s1 x0 x1 h9
        have HJ := Lib.hid (join_eq s (x % 128) i i9 s0 s1 (by omega) f0)
        have F := Lib.hid (And.intro f1 f2)
        have H2 := Lib.hid hr2
        clear h9 f0 f1 f2 hr2 s0 s1
        go_wp2
        go_round
        case rel => exact ⟨i + 1, _, by omega, by omega, by go_num, int_eq HJ.out, F.out.1, F.out.2, H2⟩
        case measure => simp [intOf]; omega
      · have hi0 : decide (0 < (i : Int)) = true := by simp; omega
        go_wp2
        all_goals (go_ret3; exact ⟨rfl, rfl⟩)
      · obtain ⟨f0, f1, f2⟩ := round_fits s x i i9 s0 s1 x0 x1 h9
        have HJ := Lib.hid (join_eq s (x % 128) i i9 s0 s1 (by omega) f0)
        clear f0 f1 f2 s0 s1
        by_cases e9 : i = 9
        · have e9' : ((i : Int) == 9) = true := by simp; omega
          have hx1 : decide (1 < x) = false := by simp; omega
          have hx0 : (x == 0) = false := by simp; omega
          have hI := Lib.hid e9
          clear e9 h9 hz
          go_wp2
          go_ret3
          exact ⟨by rw [HJ.out]; simp [Ans, ansP]; omega, rfl⟩
        · have e9' : ((i : Int) == 9) = false := by simp; omega
          by_cases x00 : x = 0
          · have hi0 : i = 0 := by omega
            have hi1 : decide (0 < (i : Int)) = false := by simp; omega
            have hx0 : (x == 0) = true := by simpa using x00
            have hI := Lib.hid hi0
            clear h9 hz e9 hi0 x00
            go_wp2
            all_goals first
              | (exfalso; have := hI.out; omega)
              | (go_ret3; exact ⟨by rw [HJ.out]; simp [Ans, ansP]; omega, rfl⟩)
          · have hx0 : (x == 0) = false := by simp; omega
            clear e9 h9 hz x00
            go_wp2
            go_ret3
            exact ⟨by rw [HJ.out]; simp [Ans, ansP]; omega, rfl⟩
    · obtain rfl : i = k := by omega
      have hd : M.drop i = [] := List.drop_of_length_le (by have := HK.out; omega)
      have hr' := hr.out
      rw [hd] at hr'
      obtain rfl : (0, 0, 10) = R := hr'
      go_wp2
      go_ret3
      exact ⟨rfl, rfl⟩
end Go.Proofs.YtmgggddnfeojmaaGreat
