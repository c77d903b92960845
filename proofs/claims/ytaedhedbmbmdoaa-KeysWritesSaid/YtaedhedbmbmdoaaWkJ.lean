/-
  Walks: parts compared, by the program.
-/
import Derived.Test.YtaedhedbmbmdoaaWkC
namespace Go.Proofs.Ytaedhedbmbmdoaa
open Go.RowKit

theorem isNaN_str (s : ByteArray) (w : World) : Calls Try.prog 42 #[.string s] w fun e w' => e = .returned (.bool false) ∧ w = w' := by
  go_enter Try.func42, Try.ntmps42
  go_wp2
  go_ret
  exact ⟨by simp, rfl⟩
theorem isNaN_int (v : Int) (w : World) : Calls Try.prog 43 #[.int .i64 v] w fun e w' => e = .returned (.bool false) ∧ w = w' := by
  go_enter Try.func43, Try.ntmps43
  go_wp2
  go_ret
  exact ⟨by simp, rfl⟩
def numsL (l : List UInt8) : List Int := l.map fun b => (b.toNat : Int)
theorem less_cmp : ∀ (x y : List UInt8), Op.bytesLess x y = decide (cmpL (numsL x) (numsL y) = -1)
  | [], [] => by simp [Op.bytesLess, numsL, cmpL]
  | _ :: _, [] => by simp [Op.bytesLess, numsL, cmpL]
  | [], _ :: _ => by simp [Op.bytesLess, numsL, cmpL]
  | a :: x, b :: y => by
    have ih := less_cmp x y
    rw [Op.bytesLess, ih]
    show _ = decide (cmpL ((a.toNat : Int) :: numsL x) ((b.toNat : Int) :: numsL y) = -1)
    rcases Nat.lt_trichotomy a.toNat b.toNat with h | h | h
    · rw [cmpL_lt _ _ _ _ (by omega)]
      simp [UInt8.lt_iff_toNat_lt, h]
    · obtain rfl : a = b := UInt8.toNat_inj.1 h
      rw [cmpL_cons]
      simp
    · rw [cmpL_gt _ _ _ _ (by omega)]
      have h1 : ¬ a < b := by rw [UInt8.lt_iff_toNat_lt]; omega
      have h2 : a ≠ b := fun e => by subst e; omega
      simp [h1, h2]
theorem less_str (s t : ByteArray) : Op.bytesLess s.toList t.toList = decide (cmpL (nums s) (nums t) = -1) := by
  rw [less_cmp, ByteArray.toList_eq, ByteArray.toList_eq]
  rfl

theorem bytes_inj {a b : ByteArray} (h : a.data.toList = b.data.toList) : a = b := by
  obtain ⟨⟨a⟩⟩ := a
  obtain ⟨⟨b⟩⟩ := b
  simpa using h
theorem cmpStr_any (s t : ByteArray) (w : World) : Calls Try.prog 37 #[.string s, .string t] w fun e w' => e = .returned (.int .i64 (cmpL (nums s) (nums t))) ∧ w = w' := by
  have h1 := less_str s t
  have h2 := less_str t s
  have hf := cmpL_flip (nums s) (nums t)
  have h3 := cmpL_three (nums s) (nums t)
  rw [hf] at h2
  clear hf
  by_cases he : s = t
  · subst he
    rw [cmpL_self] at h1 ⊢
    clear h2 h3
    simp at h1
    go_enter Try.func37, Try.ntmps37
    go_wp2_with (go_at_call 42; refine (isNaN_str _ _).mono ?_; rintro e w1 ⟨rfl, hw⟩; subst hw)
    go_ret
    exact ⟨rfl, rfl⟩
  · have hne : (s.toList == t.toList) = false := by
      rw [ByteArray.toList_eq, ByteArray.toList_eq, beq_eq_false_iff_ne]
      exact fun k => he (bytes_inj k)
    have h0 : cmpL (nums s) (nums t) ≠ 0 := fun k => he (str_inj (cmpL_eq _ _ k))
    obtain ⟨c, hc⟩ : ∃ c, cmpL (nums s) (nums t) = c := ⟨_, rfl⟩
    rw [hc] at h1 h2 h3 h0 ⊢
    clear hc he
    rcases h3 with rfl | rfl | rfl
    · simp at h1 h2
      go_enter Try.func37, Try.ntmps37
      go_wp2_with (go_at_call 42; refine (isNaN_str _ _).mono ?_; rintro e w1 ⟨rfl, hw⟩; subst hw)
      go_ret
      exact ⟨rfl, rfl⟩
    · exact absurd rfl h0
    · simp at h1 h2
      go_enter Try.func37, Try.ntmps37
      go_wp2_with (go_at_call 42; refine (isNaN_str _ _).mono ?_; rintro e w1 ⟨rfl, hw⟩; subst hw)
      go_ret
      exact ⟨rfl, rfl⟩
theorem cmpInt_any (a b : Int) (w : World) : Calls Try.prog 38 #[.int .i64 a, .int .i64 b] w fun e w' => e = .returned (.int .i64 (cmpI a b)) ∧ w = w' := by
  unfold cmpI
  rcases Int.lt_trichotomy a b with h | rfl | h
  · rw [if_pos h]
    have h1 : decide (a < b) = true := by simpa using h
    clear h
    go_enter Try.func38, Try.ntmps38
    go_wp2_with (go_at_call 43; refine (isNaN_int _ _).mono ?_; rintro e w1 ⟨rfl, hw⟩; subst hw)
    go_ret
    exact ⟨rfl, rfl⟩
  · rw [if_neg (by omega), if_neg (by omega)]
    go_enter Try.func38, Try.ntmps38
    go_wp2_with (go_at_call 43; refine (isNaN_int _ _).mono ?_; rintro e w1 ⟨rfl, hw⟩; subst hw)
    go_ret
    exact ⟨rfl, rfl⟩
  · rw [if_neg (by omega), if_pos h]
    have h1 : decide (a < b) = false := by simp; omega
    have h2 : decide (b < a) = true := by simpa using h
    clear h
    go_enter Try.func38, Try.ntmps38
    go_wp2_with (go_at_call 43; refine (isNaN_int _ _).mono ?_; rintro e w1 ⟨rfl, hw⟩; subst hw)
    go_ret
    exact ⟨rfl, rfl⟩

/-- It answers a number, and makes new memory alone. -/
def Says (w : World) (i : Int) (e : Ending) (w' : World) : Prop := e = .returned (.int .i64 i) ∧ Below w.heap.size w w'
set_option maxHeartbeats 1000000 in
theorem cmpPart_any (p q : Qt) (w : World) : Calls Try.prog 30 #[p.val, q.val] w (Says w (cmpP p.pt q.pt)) := by
  obtain ⟨t, a, s⟩ := p
  obtain ⟨u, b, r⟩ := q
  have B2 := Lib.hid (below_then (below_new w (.cells #[.bool t, .int .i64 a, .string s] 41)) (below_new _ (.cells #[.bool u, .int .i64 b, .string r] 41)))
  unfold cmpP Qt.pt Qt.val
  cases t <;> cases u
  all_goals
    simp only [ne_eq, not_true_eq_false, if_false, if_true, Bool.false_eq_true, reduceCtorEq, not_false_eq_true]
    go_enter Try.func30, Try.ntmps30
    go_wp2_with (first
      | (go_at_call 37; refine (cmpStr_any _ _ _).mono ?_; rintro e w1 ⟨rfl, hw⟩; subst hw)
      | (go_at_call 38; refine (cmpInt_any _ _ _).mono ?_; rintro e w1 ⟨rfl, hw⟩; subst hw))
    go_ret
    exact ⟨rfl, B2.out⟩

end Go.Proofs.Ytaedhedbmbmdoaa
