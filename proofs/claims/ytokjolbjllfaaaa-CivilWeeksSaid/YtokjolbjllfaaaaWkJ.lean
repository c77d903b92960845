/-
  Texts in order; a text that was written is read; wakes.
-/
import Derived.Test.YtokjolbjllfaaaaWkI
namespace Go.Proofs.Ytokjolbjllfaaaa
open Go.RowKit

theorem byte_lt (a b : Nat) (ha : a < 10) (hb : b < 10) : (UInt8.ofNat (48 + a) < UInt8.ofNat (48 + b)) = (a < b) := by
  apply propext
  rw [UInt8.lt_iff_toNat_lt, UInt8.toNat_ofNat', UInt8.toNat_ofNat']
  omega
theorem byte_eq (a b : Nat) (ha : a < 10) (hb : b < 10) : (UInt8.ofNat (48 + a) == UInt8.ofNat (48 + b)) = decide (a = b) := by
  rw [Bool.eq_iff_iff]
  simp only [beq_iff_eq, decide_eq_true_eq]
  constructor
  · intro h
    have := congrArg UInt8.toNat h
    rw [UInt8.toNat_ofNat', UInt8.toNat_ofNat'] at this
    omega
  · rintro rfl; rfl
theorem less_digits (n : Nat) : ∀ (a b : Nat) (x y : List UInt8), a < 10 ^ n → b < 10 ^ n →
    Op.bytesLess (digL n a ++ x) (digL n b ++ y) = (decide (a < b) || (decide (a = b) && Op.bytesLess x y)) := by
  induction n with
  | zero =>
    intro a b x y ha hb
    obtain rfl : a = 0 := by simpa using ha
    obtain rfl : b = 0 := by simpa using hb
    simp [digL]
  | succ n ih =>
    intro a b x y ha hb
    unfold digL
    rw [List.append_assoc, List.append_assoc, ih (a / 10) (b / 10) _ _ (by rw [Nat.pow_succ] at ha; omega) (by rw [Nat.pow_succ] at hb; omega)]
    simp only [List.singleton_append, Op.bytesLess]
    rw [byte_eq _ _ (by omega) (by omega)]
    simp only [byte_lt _ _ (Nat.mod_lt a (by omega)) (Nat.mod_lt b (by omega))]
    generalize Op.bytesLess x y = r
    rw [Bool.eq_iff_iff]
    simp only [Bool.or_eq_true, Bool.and_eq_true, decide_eq_true_eq]
    cases r
    · simp; omega
    · simp; omega

theorem textB_list (y m d : Nat) : (textB y m d).toList = digL 4 y ++ (45 :: (digL 2 m ++ (45 :: (digL 2 d ++ [])))) := ByteArray.toList_mk _
theorem less_text (y m d u n e : Int) (h : Valid y m d) (k : Valid u n e) : Op.bytesLess (textB y m d).toList (textB u n e).toList = decide (num y m d < num u n e) := by
  have L := num_lt_iff y m d u n e h k
  obtain ⟨h1, h2, h3, h4, h5, h6⟩ := h
  obtain ⟨k1, k2, k3, k4, k5, k6⟩ := k
  have := mlen_bd y m
  have := mlen_bd u n
  rw [Bool.eq_iff_iff, decide_eq_true_eq, L]
  unfold Lex
  obtain ⟨y, rfl⟩ : ∃ a : Nat, y = a := ⟨y.toNat, by omega⟩
  obtain ⟨m, rfl⟩ : ∃ a : Nat, m = a := ⟨m.toNat, by omega⟩
  obtain ⟨d, rfl⟩ : ∃ a : Nat, d = a := ⟨d.toNat, by omega⟩
  obtain ⟨u, rfl⟩ : ∃ a : Nat, u = a := ⟨u.toNat, by omega⟩
  obtain ⟨n, rfl⟩ : ∃ a : Nat, n = a := ⟨n.toNat, by omega⟩
  obtain ⟨e, rfl⟩ : ∃ a : Nat, e = a := ⟨e.toNat, by omega⟩
  rw [textB_list, textB_list, less_digits 4 y u _ _ (by omega) (by omega)]
  simp only [Op.bytesLess]
  rw [less_digits 2 m n _ _ (by omega) (by omega)]
  simp only [Op.bytesLess]
  rw [less_digits 2 d e _ _ (by omega) (by omega)]
  simp [Op.bytesLess]
  omega
theorem less_self : ∀ x : List UInt8, Op.bytesLess x x = false
  | [] => rfl
  | a :: x => by
    simp only [Op.bytesLess, less_self x]
    simp
theorem same_text (y m d u n e : Int) (h : Valid y m d) (k : Valid u n e) : ((textB y m d).toList == (textB u n e).toList) = decide (num y m d = num u n e) := by
  rw [Bool.eq_iff_iff, decide_eq_true_eq]
  constructor
  · intro t
    have t' : (textB y m d).toList = (textB u n e).toList := by simpa using t
    have a := less_text y m d u n e h k
    have b := less_text u n e y m d k h
    rw [t', less_self] at a
    rw [t', less_self] at b
    have a' := of_decide_eq_false a.symm
    have b' := of_decide_eq_false b.symm
    omega
  · intro t
    obtain ⟨rfl, rfl, rfl⟩ := num_inj y m d u n e h k t
    simp

theorem fits48 (k v : Nat) (h4 : k ≠ 4) (h7 : k ≠ 7) (hv : v < 10) : Fits k ((UInt8.ofNat (48 + v)).toNat : Int) := by
  unfold Fits
  rw [if_neg (by omega), byte48 v hv]
  omega
/-- A text that was written has the form. -/
theorem text_form (y m d : Int) : Form (textB y m d) := by
  refine ⟨rfl, fun k h => ?_⟩
  have h' : k < 10 := h
  have : k = 0 ∨ k = 1 ∨ k = 2 ∨ k = 3 ∨ k = 4 ∨ k = 5 ∨ k = 6 ∨ k = 7 ∨ k = 8 ∨ k = 9 := by omega
  rcases this with rfl | rfl | rfl | rfl | rfl | rfl | rfl | rfl | rfl | rfl
  · exact fits48 0 (y.toNat / 10 / 10 / 10 % 10) (by omega) (by omega) (by omega)
  · exact fits48 1 (y.toNat / 10 / 10 % 10) (by omega) (by omega) (by omega)
  · exact fits48 2 (y.toNat / 10 % 10) (by omega) (by omega) (by omega)
  · exact fits48 3 (y.toNat % 10) (by omega) (by omega) (by omega)
  · exact (show Fits 4 45 by decide)
  · exact fits48 5 (m.toNat / 10 % 10) (by omega) (by omega) (by omega)
  · exact fits48 6 (m.toNat % 10) (by omega) (by omega) (by omega)
  · exact (show Fits 7 45 by decide)
  · exact fits48 8 (d.toNat / 10 % 10) (by omega) (by omega) (by omega)
  · exact fits48 9 (d.toNat % 10) (by omega) (by omega) (by omega)
theorem text_rd (y m d : Int) (v : Valid y m d) : rdY (textB y m d) = y ∧ rdM (textB y m d) = m ∧ rdD (textB y m d) = d := by
  obtain ⟨h1, h2, h3, h4, h5, h6⟩ := v
  have := mlen_bd y m
  have b : ∀ v : Nat, v < 10 → ((UInt8.ofNat (48 + v)).toNat : Int) - 48 = v := fun v h => by rw [byte48 v h]; omega
  refine ⟨?_, ?_, ?_⟩
  · have e : rdY (textB y m d) = 10 * (10 * (10 * (10 * 0 + (((UInt8.ofNat (48 + y.toNat / 10 / 10 / 10 % 10)).toNat : Int) - 48)) + (((UInt8.ofNat (48 + y.toNat / 10 / 10 % 10)).toNat : Int) - 48)) + (((UInt8.ofNat (48 + y.toNat / 10 % 10)).toNat : Int) - 48)) + (((UInt8.ofNat (48 + y.toNat % 10)).toNat : Int) - 48) := rfl
    rw [e, b _ (by omega), b _ (by omega), b _ (by omega), b _ (by omega)]
    omega
  · have e : rdM (textB y m d) = 10 * (10 * 0 + (((UInt8.ofNat (48 + m.toNat / 10 % 10)).toNat : Int) - 48)) + (((UInt8.ofNat (48 + m.toNat % 10)).toNat : Int) - 48) := rfl
    rw [e, b _ (by omega), b _ (by omega)]
    omega
  · have e : rdD (textB y m d) = 10 * (10 * 0 + (((UInt8.ofNat (48 + d.toNat / 10 % 10)).toNat : Int) - 48)) + (((UInt8.ofNat (48 + d.toNat % 10)).toNat : Int) - 48) := rfl
    rw [e, b _ (by omega), b _ (by omega)]
    omega
theorem text_back (y m d : Int) (v : Valid y m d) (w : World) :
    Calls Try.prog 20 #[.string (textB y m d)] w fun e w' => e = .returned (.tuple #[.int .i64 (num y m d), .int .i64 0]) ∧ Below w.heap.size w w' := by
  obtain ⟨r1, r2, r3⟩ := text_rd y m d v
  refine (read_yes (textB y m d) w (text_form y m d)).mono fun _ _ k => ?_
  rw [r1, r2, r3, ofP_yes y m d v] at k
  exact k

theorem of_w (w : World) : Calls Try.prog 10 #[.int .i64 2000, .int .i64 2, .int .i64 29] w fun e w' => e = .returned (.tuple #[.int .i64 11016, .int .i64 0]) ∧ Below w.heap.size w w' :=
  (of_any 2000 2 29 w).mono fun _ _ h => ⟨by rw [h.1, show ofP 2000 2 29 = (11016, 0) by decide], h.2⟩
theorem text_w0 (w : World) : Calls Try.prog 18 #[.int .i64 0] w fun e w' => e = .returned (.tuple #[.string ⟨#[49, 57, 55, 48, 45, 48, 49, 45, 48, 49]⟩, .int .i64 0]) ∧ Below w.heap.size w w' := by
  have := text_yes 1970 1 1 w (by decide)
  rw [show num 1970 1 1 = 0 by decide] at this
  exact this
theorem read_w (w : World) : Calls Try.prog 20 #[.string ⟨#[50, 48, 50, 52, 45, 48, 49, 45, 51, 49]⟩] w fun e w' => e = .returned (.tuple #[.int .i64 19753, .int .i64 0]) ∧ Below w.heap.size w w' := by
  have := text_back 2024 1 31 (by decide) w
  rw [show num 2024 1 31 = 19753 by decide] at this
  exact this
theorem add_w (w : World) : Calls Try.prog 14 #[.int .i64 19753, .int .i64 1] w fun e w' => e = .returned (.tuple #[.int .i64 19782, .int .i64 0]) ∧ Below w.heap.size w w' := by
  have := add_yes 2024 1 31 1 w (by decide) (by omega) (by omega)
  rw [show num 2024 1 31 = 19753 by decide, show addP 2024 1 31 1 = (19782, 0) by decide] at this
  exact this
theorem text_w1 (w : World) : Calls Try.prog 18 #[.int .i64 19782] w fun e w' => e = .returned (.tuple #[.string ⟨#[50, 48, 50, 52, 45, 48, 50, 45, 50, 57]⟩, .int .i64 0]) ∧ Below w.heap.size w w' := by
  have := text_yes 2024 2 29 w (by decide)
  rw [show num 2024 2 29 = 19782 by decide] at this
  exact this
theorem weekday_w (w : World) : Calls Try.prog 16 #[.int .i64 0] w fun e w' => e = .returned (.tuple #[.int .i64 4, .int .i64 0]) ∧ w = w' := weekday_any 0 w

set_option maxRecDepth 100000 in
set_option maxHeartbeats 1000000 in
theorem wakes_any (w : World) : Calls Try.prog 9 #[] w fun e w' => e = .returned (.bool true) ∧ Below w.heap.size w w' := by
  go_enter Try.func9, Try.ntmps9
  go_wp2_with (first | (go_at_call 10; refine (of_w _).mono ?_; rintro e w1 ⟨rfl, hb1⟩) | (go_at_call 18; (with_reducible refine (text_w0 _).mono ?_); rintro e w2 ⟨rfl, hb2⟩) | (go_at_call 20; refine (read_w _).mono ?_; rintro e w3 ⟨rfl, hb3⟩) | (go_at_call 14; refine (add_w _).mono ?_; rintro e w4 ⟨rfl, hb4⟩) | (go_at_call 18; (with_reducible refine (text_w1 _).mono ?_); rintro e w5 ⟨rfl, hb5⟩) | (go_at_call 16; refine (weekday_w _).mono ?_; rintro e w6 ⟨rfl, rfl⟩))
  go_ret
  exact ⟨rfl, below_then (below_then (below_then (below_then hb1 hb2) hb3) hb4) hb5⟩

end Go.Proofs.Ytokjolbjllfaaaa
