/-
  Plain: the calendar's whole numbers. Nothing of the program.
-/
import Derived.Test.YtfcgmhkfehcdaaaProg
namespace Go.Proofs.Ytfcgmhkfehcdaaa

def lp (y : Int) : Int := if y % 4 = 0 ∧ (y % 100 ≠ 0 ∨ y % 400 = 0) then 1 else 0
theorem lp_01 (y : Int) : 0 ≤ lp y ∧ lp y ≤ 1 := by unfold lp; split <;> omega
def mlen (y m : Int) : Int := if m = 2 then 28 + lp y else if m = 4 ∨ m = 6 ∨ m = 9 ∨ m = 11 then 30 else 31
theorem mlen_bd (y m : Int) : 28 ≤ mlen y m ∧ mlen y m ≤ 31 := by
  have := lp_01 y
  unfold mlen; split
  · omega
  · split <;> omega
def ahead (y : Int) : Int := 365 * (y - 1) + (y - 1) / 4 - (y - 1) / 100 + (y - 1) / 400
theorem ahead_bd (y : Int) (h0 : 1 ≤ y) (h : y ≤ 10001) : 0 ≤ ahead y ∧ ahead y ≤ 3653000 := by unfold ahead; omega
theorem ahead_succ (y : Int) : ahead (y + 1) = ahead y + 365 + lp y := by unfold ahead lp; split <;> omega
theorem ahead_mono (a b : Int) (h : a ≤ b) : ahead a ≤ ahead b := by unfold ahead; omega
def cum (y m : Int) : Int := if m ≤ 2 then 31 * (m - 1) else 59 + lp y + (153 * (m - 3) + 2) / 5
theorem cum_one (y : Int) : cum y 1 = 0 := by unfold cum; rfl
theorem cum_succ (y m : Int) (h0 : 1 ≤ m) (h1 : m ≤ 11) : cum y (m + 1) = cum y m + mlen y m := by
  have : m = 1 ∨ m = 2 ∨ m = 3 ∨ m = 4 ∨ m = 5 ∨ m = 6 ∨ m = 7 ∨ m = 8 ∨ m = 9 ∨ m = 10 ∨ m = 11 := by omega
  rcases this with rfl | rfl | rfl | rfl | rfl | rfl | rfl | rfl | rfl | rfl | rfl <;> simp [cum, mlen] <;> omega
theorem cum_end (y : Int) : cum y 12 + mlen y 12 = 365 + lp y := by simp [cum, mlen]; omega
theorem cum_bd (y m : Int) (h0 : 1 ≤ m) (h1 : m ≤ 12) : 0 ≤ cum y m ∧ cum y m ≤ 335 := by
  have := lp_01 y
  unfold cum; split <;> omega
theorem cum_mono (y a b : Int) (h0 : 1 ≤ a) (h : a < b) (h1 : b ≤ 12) : cum y a + mlen y a ≤ cum y b := by
  have := lp_01 y
  rw [← cum_succ y a h0 (by omega)]
  unfold cum; split <;> split <;> omega
theorem cum_fit (y m : Int) (h0 : 1 ≤ m) (h1 : m ≤ 12) : cum y m + mlen y m ≤ 365 + lp y := by
  by_cases e : m = 12
  · subst e; rw [cum_end]; omega
  · rw [← cum_succ y m h0 (by omega)]
    have := lp_01 y
    unfold cum; split <;> omega

def Valid (y m d : Int) : Prop := 1 ≤ y ∧ y ≤ 9999 ∧ 1 ≤ m ∧ m ≤ 12 ∧ 1 ≤ d ∧ d ≤ mlen y m
def num (y m d : Int) : Int := -719162 + ahead y + cum y m + d - 1
theorem num_lo (y m d : Int) (h : Valid y m d) : -719162 + ahead y ≤ num y m d := by
  obtain ⟨_, _, h1, h2, h3, h4⟩ := h
  have := cum_bd y m h1 h2
  unfold num; omega
theorem num_hi (y m d : Int) (h : Valid y m d) : num y m d < -719162 + ahead (y + 1) := by
  obtain ⟨_, _, h1, h2, h3, h4⟩ := h
  have := cum_fit y m h1 h2
  rw [ahead_succ]
  unfold num; omega
theorem num_in (y m d : Int) (h : Valid y m d) : -719162 ≤ num y m d ∧ num y m d ≤ 2932896 := by
  have h1 := num_lo y m d h
  have h2 := num_hi y m d h
  obtain ⟨a, b, _⟩ := h
  have h3 := ahead_mono (y + 1) 10000 (by omega)
  have h4 : ahead 10000 = 3652059 := by decide
  have h5 := ahead_mono 1 y (by omega)
  have h6 : ahead 1 = 0 := by decide
  omega
/-- Dates in order are days in order. -/
def Lex (y m d u n e : Int) : Prop := y < u ∨ y = u ∧ (m < n ∨ m = n ∧ d < e)
theorem num_lt (y m d u n e : Int) (h : Valid y m d) (k : Valid u n e) (l : Lex y m d u n e) : num y m d < num u n e := by
  rcases l with l | ⟨rfl, l | ⟨rfl, l⟩⟩
  · have h1 := num_hi y m d h
    have h2 := num_lo u n e k
    have h3 := ahead_mono (y + 1) u (by omega)
    omega
  · obtain ⟨_, _, h1, h2, h3, h4⟩ := h
    obtain ⟨_, _, k1, k2, k3, k4⟩ := k
    have := cum_mono y m n h1 l k2
    unfold num; omega
  · unfold num; omega
theorem lex_or (y m d u n e : Int) : Lex y m d u n e ∨ Lex u n e y m d ∨ (y = u ∧ m = n ∧ d = e) := by unfold Lex; omega
theorem num_lt_iff (y m d u n e : Int) (h : Valid y m d) (k : Valid u n e) : num y m d < num u n e ↔ Lex y m d u n e := by
  refine ⟨fun l => ?_, num_lt y m d u n e h k⟩
  rcases lex_or y m d u n e with a | a | ⟨rfl, rfl, rfl⟩
  · exact a
  · have := num_lt u n e y m d k h a; omega
  · omega
theorem num_inj (y m d u n e : Int) (h : Valid y m d) (k : Valid u n e) (l : num y m d = num u n e) : y = u ∧ m = n ∧ d = e := by
  rcases lex_or y m d u n e with a | a | a
  · have := num_lt y m d u n e h k a; omega
  · have := num_lt u n e y m d k h a; omega
  · exact a

/-- The year of so many days since the first: guessed by even years, raised by one at most. -/
theorem guess_lo (n q : Int) (_h0 : 0 ≤ n) (hq : q = n * 400 / 146097) : ahead (q + 1) ≤ n := by unfold ahead; omega
theorem guess_hi (n q : Int) (_h0 : 0 ≤ n) (hq : q = n * 400 / 146097) : n < ahead (q + 3) := by unfold ahead; omega
theorem guess_bd (n q : Int) (h0 : 0 ≤ n) (h1 : n ≤ 3652058) (hq : q = n * 400 / 146097) : 0 ≤ q ∧ q ≤ 9998 := by omega
theorem year_in (n y : Int) (h0 : 0 ≤ n) (h1 : n ≤ 3652058) (a : ahead y ≤ n) (b : n < ahead (y + 1)) : 1 ≤ y ∧ y ≤ 9999 := by
  constructor
  · apply Classical.byContradiction
    intro h
    have := ahead_mono (y + 1) 1 (by omega)
    have h6 : ahead 1 = 0 := by decide
    omega
  · apply Classical.byContradiction
    intro h
    have := ahead_mono 10000 y (by omega)
    have h4 : ahead 10000 = 3652059 := by decide
    omega

theorem vld_of (n y m r : Int) (hn0 : 0 ≤ n) (hn1 : n ≤ 3652058) (a : ahead y ≤ n) (b : n < ahead (y + 1)) (m0 : 1 ≤ m) (m1 : m ≤ 12) (hr : r = n - ahead y - cum y m) (r0 : 0 ≤ r) (r1 : r < mlen y m) :
    Valid y m (r + 1) ∧ num y m (r + 1) = n - 719162 := by
  have := year_in n y hn0 hn1 a b
  refine ⟨⟨this.1, this.2, m0, m1, by omega, by omega⟩, ?_⟩
  unfold num; omega
theorem rest_fit (n y m : Int) (b : n < ahead (y + 1)) (m0 : 1 ≤ m) (h : m = 12) : n - ahead y - cum y m < mlen y m := by
  subst h
  have := cum_end y
  rw [ahead_succ] at b
  omega

instance (y m d : Int) : Decidable (Valid y m d) := by unfold Valid; infer_instance
/-- What Of answers. -/
def ofP (y m d : Int) : Int × Int := if Valid y m d then (num y m d, 0) else (0, 6)
theorem ofP_yes (y m d : Int) (h : Valid y m d) : ofP y m d = (num y m d, 0) := by unfold ofP; rw [if_pos h]
theorem ofP_no (y m d : Int) (h : ¬ Valid y m d) : ofP y m d = (0, 6) := by unfold ofP; rw [if_neg h]

/-- What Add answers of a date and so many months. -/
def addP (y m d k : Int) : Int × Int :=
  if 0 ≤ 12 * (y - 1) + m - 1 + k ∧ 12 * (y - 1) + m - 1 + k < 119988 then
    (num ((12 * (y - 1) + m - 1 + k) / 12 + 1) ((12 * (y - 1) + m - 1 + k) % 12 + 1) (min d (mlen ((12 * (y - 1) + m - 1 + k) / 12 + 1) ((12 * (y - 1) + m - 1 + k) % 12 + 1))), 0)
  else (0, 6)
theorem addP_of (y m d k c : Int) (h : Valid y m d) (hc : c = 12 * (y - 1) + m - 1 + k) (h0 : 0 ≤ c) : ofP (c / 12 + 1) (c % 12 + 1) (min d (mlen (c / 12 + 1) (c % 12 + 1))) = addP y m d k := by
  subst hc
  obtain ⟨a1, a2, a3, a4, a5, a6⟩ := h
  have b := mlen_bd ((12 * (y - 1) + m - 1 + k) / 12 + 1) ((12 * (y - 1) + m - 1 + k) % 12 + 1)
  unfold addP
  split
  · rw [ofP_yes _ _ _ ⟨by omega, by omega, by omega, by omega, by omega, by omega⟩]
  · rw [ofP_no _ _ _ (fun v => by obtain ⟨v1, v2, _⟩ := v; omega)]
theorem addP_low (y m d k : Int) (h : 12 * (y - 1) + m - 1 + k < 0) : addP y m d k = (0, 6) := by unfold addP; rw [if_neg (by omega)]
theorem addP_high (y m d k : Int) (h : 119988 ≤ 12 * (y - 1) + m - 1 + k) : addP y m d k = (0, 6) := by unfold addP; rw [if_neg (by omega)]

end Go.Proofs.Ytfcgmhkfehcdaaa
