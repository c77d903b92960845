/-
  Walks of the document's own answers: Add, Sub, MulDiv, Interest.
-/
import Derived.Test.YtefkabkncmflpaaDoorWkE
namespace Go.Proofs.YtefkabkncmflpaaDoor
open Go.RowKit

theorem back_sgnd (E : Int) (ng : Bool) : ∃ (v : Int) (ok : Bool), backV E ng = (v, ok) ∧ sgnd E ng = if ok then (v, 0) else (0, 4) := by
  unfold backV sgnd
  cases ng
  · by_cases h : E ≤ 9223372036854775807
    · exact ⟨E, true, by simp [h], by simp [h]⟩
    · exact ⟨0, false, by simp [h], by simp [h]⟩
  · by_cases h : E ≤ 9223372036854775808
    · exact ⟨-E, true, by simp [h], by simp [h]⟩
    · exact ⟨0, false, by simp [h], by simp [h]⟩

theorem prod_small (a b A B M : Int) (h0 : 0 ≤ a) (h1 : a ≤ A) (h2 : 0 ≤ b) (h3 : b ≤ B) (hM : A * B + 1 < M) : a * b + 1 < M ∧ 0 ≤ a * b := by
  have := mul_lt a b A B h0 h1 h2 h3
  omega

/-- What the chain of products and the quotient come to: two numbers in digits, multiplied. -/
theorem times_val (a b : Nat → Int) (A B : Int) (ha : InR a) (hb : InR b) (va : val a 20 = A) (vb : val b 20 = B) (h : A * B < 65536 ^ 20) : InR (tf a b 20) ∧ val (tf a b 20) 20 = A * B := by
  subst va; subst vb
  exact ⟨tf_in a b 20, times_in a b ha hb h⟩

set_option maxRecDepth 100000 in
set_option maxHeartbeats 1000000 in
theorem refMulDiv_any (a b c : Int) (w : World) (ha : -9223372036854775808 ≤ a) (ha' : a ≤ 9223372036854775807) (hb : -9223372036854775808 ≤ b) (hb' : b ≤ 9223372036854775807) (hc : -9223372036854775808 ≤ c) (hc' : c ≤ 9223372036854775807) :
    Calls Tryd.prog 17 #[.int .i64 a, .int .i64 b, .int .i64 c] w fun e w' => e = .returned (pairV (mulDiv a b c)) ∧ Below w.heap.size w w' := by
  by_cases hz : c = 0
  · subst hz
    rw [show mulDiv a b 0 = (0, 5) from rfl]
    go_enter Tryd.func17, Tryd.ntmps17
    go_wp2
    go_ret2
    exact ⟨rfl, Below.refl _ _⟩
  · have hz' : (c == 0) = false := by simp [hz]
    have hm : mulDiv a b c = sgnd (even (size a * size b) (size c)) (negs a b c) := by unfold mulDiv; rw [if_neg hz]
    obtain ⟨ng, hng⟩ : ∃ ng, ((decide (a < 0) != decide (b < 0)) != decide (c < 0)) = ng := ⟨_, rfl⟩
    rw [show negs a b c = ng from hng] at hm
    have a0 := size_nonneg a
    have b0 := size_nonneg b
    have c0 := size_pos' c hz
    have a1 := size_le a ha ha'
    have b1 := size_le b hb hb'
    have c1 := size_le c hc hc'
    have va := ofD_val (size a) a0 (by omega)
    have vb := ofD_val (size b) b0 (by omega)
    have vc := ofD_val (size c) (by omega) (by omega)
    have pr := prod_small _ _ _ _ (65536 ^ 20) a0 a1 b0 b1 (by decide)
    have tv := times_val _ _ _ _ (ofD_in (size a)) (ofD_in (size b)) va vb (by omega)
    obtain ⟨v, ok, hbv, hsg⟩ := back_sgnd (even (size a * size b) (size c)) ng
    have hng2 : (!((!(decide (a < 0) == decide (b < 0))) == decide (c < 0))) = ng := hng
    clear hng
    have TV := Lib.hid tv
    have VC := Lib.hid vc
    have PR := Lib.hid pr
    have HM := Lib.hid (hm.trans hsg)
    have HB := Lib.hid hbv
    have HC : Hid (0 < size c ∧ 2 * size c ≤ 65536 ^ 20) := Lib.hid ⟨c0, by omega⟩
    clear hm hz va vb vc pr tv hsg hbv a0 b0 c0 a1 b1 c1
    cases ok
    all_goals
      go_enter Tryd.func17, Tryd.ntmps17
      go_wp2_with (first | (go_at_call 35; refine (refSize_any _ _ (by omega) (by omega)).mono ?_; rintro e w' ⟨rfl, hbx⟩) | (go_at_call 34; refine (times20_any _ _ _ (ofD_in _) (ofD_in _)).mono ?_; rintro e w' ⟨rfl, hbt⟩) | (go_at_call 33; refine (even20_any _ _ _ TV.out.1 (ofD_in _) (by rw [VC.out]; exact HC.out.1) (by rw [VC.out]; exact HC.out.2) (by rw [TV.out.2]; exact PR.out.1)).mono ?_; rintro e w' ⟨f, rfl, hf, hfv, hbe⟩; rw [TV.out.2, VC.out] at hfv; have HF := Lib.hid hfv; clear hfv) | (go_at_call 32; refine (back_any _ _ _ hf).mono ?_; rw [HF.out, HB.out]; rintro e w' ⟨rfl, hbb⟩))
      go_ret2
      refine ⟨by rw [HM.out]; rfl, ?_⟩
      repeat (first | exact Below.refl _ _ | refine below_then ?_ (by assumption))

set_option maxHeartbeats 400000 in
theorem refInterest_no0 (p rate num den : Int) (w : World)  (h : p < -1000000000000000) :
    Calls Tryd.prog 19 #[.int .i64 p, .int .i64 rate, .int .i64 num, .int .i64 den] w fun e w' => e = .returned (.tuple #[.int .i64 0, .int .i64 2]) ∧ w = w' := by
  go_enter Tryd.func19, Tryd.ntmps19
  go_wp2
  go_ret2
  exact ⟨rfl, rfl⟩

set_option maxHeartbeats 400000 in
theorem refInterest_no1 (p rate num den : Int) (w : World) (g0 : -1000000000000000 ≤ p) (h : 1000000000000000 < p) :
    Calls Tryd.prog 19 #[.int .i64 p, .int .i64 rate, .int .i64 num, .int .i64 den] w fun e w' => e = .returned (.tuple #[.int .i64 0, .int .i64 2]) ∧ w = w' := by
  go_enter Tryd.func19, Tryd.ntmps19
  go_wp2
  go_ret2
  exact ⟨rfl, rfl⟩

set_option maxHeartbeats 400000 in
theorem refInterest_no2 (p rate num den : Int) (w : World) (g0 : -1000000000000000 ≤ p) (g1 : p ≤ 1000000000000000) (h : rate < 0) :
    Calls Tryd.prog 19 #[.int .i64 p, .int .i64 rate, .int .i64 num, .int .i64 den] w fun e w' => e = .returned (.tuple #[.int .i64 0, .int .i64 2]) ∧ w = w' := by
  go_enter Tryd.func19, Tryd.ntmps19
  go_wp2
  go_ret2
  exact ⟨rfl, rfl⟩

set_option maxHeartbeats 400000 in
theorem refInterest_no3 (p rate num den : Int) (w : World) (g0 : -1000000000000000 ≤ p) (g1 : p ≤ 1000000000000000) (g2 : 0 ≤ rate) (h : 1000000000 < rate) :
    Calls Tryd.prog 19 #[.int .i64 p, .int .i64 rate, .int .i64 num, .int .i64 den] w fun e w' => e = .returned (.tuple #[.int .i64 0, .int .i64 2]) ∧ w = w' := by
  go_enter Tryd.func19, Tryd.ntmps19
  go_wp2
  go_ret2
  exact ⟨rfl, rfl⟩

set_option maxHeartbeats 400000 in
theorem refInterest_no4 (p rate num den : Int) (w : World) (g0 : -1000000000000000 ≤ p) (g1 : p ≤ 1000000000000000) (g2 : 0 ≤ rate) (g3 : rate ≤ 1000000000) (h : num < 0) :
    Calls Tryd.prog 19 #[.int .i64 p, .int .i64 rate, .int .i64 num, .int .i64 den] w fun e w' => e = .returned (.tuple #[.int .i64 0, .int .i64 2]) ∧ w = w' := by
  go_enter Tryd.func19, Tryd.ntmps19
  go_wp2
  go_ret2
  exact ⟨rfl, rfl⟩

set_option maxHeartbeats 400000 in
theorem refInterest_no5 (p rate num den : Int) (w : World) (g0 : -1000000000000000 ≤ p) (g1 : p ≤ 1000000000000000) (g2 : 0 ≤ rate) (g3 : rate ≤ 1000000000) (g4 : 0 ≤ num) (h : 10000000 < num) :
    Calls Tryd.prog 19 #[.int .i64 p, .int .i64 rate, .int .i64 num, .int .i64 den] w fun e w' => e = .returned (.tuple #[.int .i64 0, .int .i64 2]) ∧ w = w' := by
  go_enter Tryd.func19, Tryd.ntmps19
  go_wp2
  go_ret2
  exact ⟨rfl, rfl⟩

set_option maxHeartbeats 400000 in
theorem refInterest_no6 (p rate num den : Int) (w : World) (g0 : -1000000000000000 ≤ p) (g1 : p ≤ 1000000000000000) (g2 : 0 ≤ rate) (g3 : rate ≤ 1000000000) (g4 : 0 ≤ num) (g5 : num ≤ 10000000) (h : den < 1) :
    Calls Tryd.prog 19 #[.int .i64 p, .int .i64 rate, .int .i64 num, .int .i64 den] w fun e w' => e = .returned (.tuple #[.int .i64 0, .int .i64 2]) ∧ w = w' := by
  go_enter Tryd.func19, Tryd.ntmps19
  go_wp2
  go_ret2
  exact ⟨rfl, rfl⟩

set_option maxHeartbeats 400000 in
theorem refInterest_no7 (p rate num den : Int) (w : World) (g0 : -1000000000000000 ≤ p) (g1 : p ≤ 1000000000000000) (g2 : 0 ≤ rate) (g3 : rate ≤ 1000000000) (g4 : 0 ≤ num) (g5 : num ≤ 10000000) (g6 : 1 ≤ den) (h : 366 < den) :
    Calls Tryd.prog 19 #[.int .i64 p, .int .i64 rate, .int .i64 num, .int .i64 den] w fun e w' => e = .returned (.tuple #[.int .i64 0, .int .i64 2]) ∧ w = w' := by
  go_enter Tryd.func19, Tryd.ntmps19
  go_wp2
  go_ret2
  exact ⟨rfl, rfl⟩

set_option maxRecDepth 100000 in
set_option maxHeartbeats 1000000 in
theorem refInterest_yes (p rate num den : Int) (w : World) (g0 : -1000000000000000 ≤ p) (g1 : p ≤ 1000000000000000) (g2 : 0 ≤ rate) (g3 : rate ≤ 1000000000) (g4 : 0 ≤ num) (g5 : num ≤ 10000000) (g6 : 1 ≤ den) (g7 : den ≤ 366) :
    Calls Tryd.prog 19 #[.int .i64 p, .int .i64 rate, .int .i64 num, .int .i64 den] w fun e w' => e = .returned (pairV (sgnd (even (size p * rate * num) (1000000000 * den)) (decide (p < 0)))) ∧ Below w.heap.size w w' := by
  have p0 := size_nonneg p
  have p1 : size p ≤ 1000000000000000 := by unfold size; omega
  have er : size rate = rate := by unfold size; omega
  have en : size num = num := by unfold size; omega
  have ed : size den = den := by unfold size; omega
  have vp := ofD_val (size p) p0 (by omega)
  have vr := ofD_val (size rate) (by omega) (by omega)
  have vn := ofD_val (size num) (by omega) (by omega)
  have vd := ofD_val (size den) (by omega) (by omega)
  have vb := ofD_val 1000000000 (by omega) (by omega)
  have vr' : val (ofD (size rate)) 20 = rate := by rw [vr, er]
  have vn' : val (ofD (size num)) 20 = num := by rw [vn, en]
  have vd' : val (ofD (size den)) 20 = den := by rw [vd, ed]
  have pr1 := prod_small (size p) rate _ _ (65536 ^ 20) p0 p1 g2 g3 (by decide)
  have pr1' := mul_lt (size p) rate _ _ p0 p1 g2 g3
  have pr2 := prod_small (size p * rate) num _ _ (65536 ^ 20) pr1'.1 pr1'.2 g4 g5 (by decide)
  have tv1 := times_val _ _ (size p) rate (ofD_in (size p)) (ofD_in (size rate)) vp vr' (by omega)
  have tv2 := times_val _ _ (size p * rate) num tv1.1 (ofD_in (size num)) tv1.2 vn' (by omega)
  have tv3 := times_val _ _ 1000000000 den (ofD_in 1000000000) (ofD_in (size den)) vb vd' (by omega)
  obtain ⟨v, ok, hbv, hsg⟩ := back_sgnd (even (size p * rate * num) (1000000000 * den)) (decide (p < 0))
  have TV1 := Lib.hid tv1
  have TV2 := Lib.hid tv2
  have TV3 := Lib.hid tv3
  have PR := Lib.hid pr2
  have HS := Lib.hid hsg
  have HB := Lib.hid hbv
  have HC : Hid (0 < 1000000000 * den ∧ 2 * (1000000000 * den) ≤ 65536 ^ 20) := Lib.hid ⟨by omega, by omega⟩
  clear p0 p1 er en ed vp vr vn vd vr' vn' vd' vb pr1 pr1' pr2 tv1 tv2 tv3 hbv hsg
  cases ok
  all_goals
    go_enter Tryd.func19, Tryd.ntmps19
    go_wp2_with (first | (go_at_call 35; refine (refSize_any _ _ (by omega) (by omega)).mono ?_; rintro e w' ⟨rfl, hbx⟩) | (go_at_call 37; refine (of_any _ _ (by omega) (by omega)).mono ?_; rintro e w' ⟨rfl, hbo⟩) | (go_at_call 34; refine (times20_any _ _ _ (by first | exact ofD_in _ | exact TV1.out.1) (ofD_in _)).mono ?_; rintro e w' ⟨rfl, hbt⟩) | (go_at_call 33; refine (even20_any _ _ _ TV2.out.1 TV3.out.1 (by rw [TV3.out.2]; exact HC.out.1) (by rw [TV3.out.2]; exact HC.out.2) (by rw [TV2.out.2]; exact PR.out.1)).mono ?_; rintro e w' ⟨f, rfl, hf, hfv, hbe⟩; rw [TV2.out.2, TV3.out.2] at hfv; have HF := Lib.hid hfv; clear hfv) | (go_at_call 32; refine (back_any _ _ _ hf).mono ?_; rw [HF.out, HB.out]; rintro e w' ⟨rfl, hbb⟩))
    go_ret2
    refine ⟨by rw [HS.out]; rfl, ?_⟩
    repeat (first | exact Below.refl _ _ | refine below_then ?_ (by assumption))

theorem refInterest_any (p rate num den : Int) (w : World) :
    Calls Tryd.prog 19 #[.int .i64 p, .int .i64 rate, .int .i64 num, .int .i64 den] w fun e w' => e = .returned (pairV (interest p rate num den)) ∧ Below w.heap.size w w' := by
  unfold interest
  by_cases g : inRange p rate num den
  · rw [if_pos g]
    simp only [inRange, Bool.and_eq_true, decide_eq_true_eq] at g
    obtain ⟨⟨⟨⟨⟨⟨⟨g0, g1⟩, g2⟩, g3⟩, g4⟩, g5⟩, g6⟩, g7⟩ := g
    exact refInterest_yes p rate num den w g0 g1 g2 g3 g4 g5 g6 g7
  · rw [if_neg g]
    have fin : Calls Tryd.prog 19 #[.int .i64 p, .int .i64 rate, .int .i64 num, .int .i64 den] w (fun e w' => e = .returned (.tuple #[.int .i64 0, .int .i64 2]) ∧ w = w') := by
      by_cases g0 : -1000000000000000 ≤ p
      case neg => exact refInterest_no0 p rate num den w  (by omega)
      by_cases g1 : p ≤ 1000000000000000
      case neg => exact refInterest_no1 p rate num den w g0 (by omega)
      by_cases g2 : 0 ≤ rate
      case neg => exact refInterest_no2 p rate num den w g0 g1 (by omega)
      by_cases g3 : rate ≤ 1000000000
      case neg => exact refInterest_no3 p rate num den w g0 g1 g2 (by omega)
      by_cases g4 : 0 ≤ num
      case neg => exact refInterest_no4 p rate num den w g0 g1 g2 g3 (by omega)
      by_cases g5 : num ≤ 10000000
      case neg => exact refInterest_no5 p rate num den w g0 g1 g2 g3 g4 (by omega)
      by_cases g6 : 1 ≤ den
      case neg => exact refInterest_no6 p rate num den w g0 g1 g2 g3 g4 g5 (by omega)
      by_cases g7 : den ≤ 366
      case neg => exact refInterest_no7 p rate num den w g0 g1 g2 g3 g4 g5 g6 (by omega)
      exact absurd (by simp [inRange, *]) g
    exact fin.mono fun e w' h => ⟨h.1, by rw [h.2]; exact Below.refl _ _⟩

set_option maxHeartbeats 400000 in
theorem refAdd_any (a b : Int) (w : World) (ha : -9223372036854775808 ≤ a) (ha' : a ≤ 9223372036854775807) (hb : -9223372036854775808 ≤ b) (hb' : b ≤ 9223372036854775807) :
    Calls Tryd.prog 14 #[.int .i64 a, .int .i64 b] w fun e w' => e = .returned (addA a b) ∧ w = w' := by
  unfold addA
  rcases Int.lt_trichotomy 0 b with h | h | h
  · by_cases g : a ≤ 9223372036854775807 - b
    · rw [if_pos (by omega)]
      go_enter Tryd.func14, Tryd.ntmps14
      go_wp2
      go_ret2
      exact ⟨rfl, rfl⟩
    · rw [if_neg (by omega)]
      go_enter Tryd.func14, Tryd.ntmps14
      go_wp2
      go_ret2
      exact ⟨rfl, rfl⟩
  · subst h
    rw [if_pos (by omega)]
    go_enter Tryd.func14, Tryd.ntmps14
    go_wp2
    go_ret2
    exact ⟨ret_two (by omega) rfl, rfl⟩
  · by_cases g : -9223372036854775808 - b ≤ a
    · rw [if_pos (by omega)]
      go_enter Tryd.func14, Tryd.ntmps14
      go_wp2
      go_ret2
      exact ⟨rfl, rfl⟩
    · rw [if_neg (by omega)]
      go_enter Tryd.func14, Tryd.ntmps14
      go_wp2
      go_ret2
      exact ⟨rfl, rfl⟩

set_option maxHeartbeats 400000 in
theorem refSub_any (a b : Int) (w : World) (ha : -9223372036854775808 ≤ a) (ha' : a ≤ 9223372036854775807) (hb : -9223372036854775808 ≤ b) (hb' : b ≤ 9223372036854775807) :
    Calls Tryd.prog 15 #[.int .i64 a, .int .i64 b] w fun e w' => e = .returned (subA a b) ∧ w = w' := by
  unfold subA
  rcases Int.lt_trichotomy b 0 with h | h | h
  · by_cases g : a ≤ 9223372036854775807 + b
    · rw [if_pos (by omega)]
      go_enter Tryd.func15, Tryd.ntmps15
      go_wp2
      go_ret2
      exact ⟨rfl, rfl⟩
    · rw [if_neg (by omega)]
      go_enter Tryd.func15, Tryd.ntmps15
      go_wp2
      go_ret2
      exact ⟨rfl, rfl⟩
  · subst h
    rw [if_pos (by omega)]
    go_enter Tryd.func15, Tryd.ntmps15
    go_wp2
    go_ret2
    exact ⟨ret_two (by omega) rfl, rfl⟩
  · by_cases g : -9223372036854775808 + b ≤ a
    · rw [if_pos (by omega)]
      go_enter Tryd.func15, Tryd.ntmps15
      go_wp2
      go_ret2
      exact ⟨rfl, rfl⟩
    · rw [if_neg (by omega)]
      go_enter Tryd.func15, Tryd.ntmps15
      go_wp2
      go_ret2
      exact ⟨rfl, rfl⟩

end Go.Proofs.YtefkabkncmflpaaDoor
