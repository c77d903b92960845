/-
  Walks of the laws AmountAdds, AmountDivides, AmountInterest, AmountLaws.
-/
import Derived.Test.YtefkabkncmflpaaDoorWakes
namespace Go.Proofs.YtefkabkncmflpaaDoor
open Go.RowKit

def addP (a b : Int) : Int × Int := if -9223372036854775808 ≤ a + b ∧ a + b ≤ 9223372036854775807 then (a + b, 0) else (0, 4)
def subP (a b : Int) : Int × Int := if -9223372036854775808 ≤ a - b ∧ a - b ≤ 9223372036854775807 then (a - b, 0) else (0, 4)
theorem addA_pair (a b : Int) : addA a b = pairV (addP a b) := by unfold addA addP; split <;> rfl
theorem subA_pair (a b : Int) : subA a b = pairV (subP a b) := by unfold subA subP; split <;> rfl

set_option maxHeartbeats 400000 in
theorem adds_law (a b : Int) (w : World) (ha : -9223372036854775808 ≤ a) (ha' : a ≤ 9223372036854775807) (hb : -9223372036854775808 ≤ b) (hb' : b ≤ 9223372036854775807) :
    Calls Tryd.prog 3 #[.int .i64 a, .int .i64 b] w fun e w' => e = .returned (.bool true) ∧ Below w.heap.size w w' := by
  have H1 := Lib.hid (fun w => add_any a b w ⟨ha, ha'⟩ ⟨hb, hb'⟩)
  have H2 := Lib.hid (fun w => sub_any a b w ⟨ha, ha'⟩ ⟨hb, hb'⟩)
  have H3 := Lib.hid (fun w => refAdd_any a b w ha ha' hb hb')
  have H4 := Lib.hid (fun w => refSub_any a b w ha ha' hb hb')
  rw [addA_pair] at H1 H3
  rw [subA_pair] at H2 H4
  obtain ⟨x, hx⟩ : ∃ x, addP a b = x := ⟨_, rfl⟩
  obtain ⟨y, hy⟩ : ∃ y, subP a b = y := ⟨_, rfl⟩
  rw [hx] at H1 H3
  rw [hy] at H2 H4
  clear hx hy
  obtain ⟨x1, x2⟩ := x
  obtain ⟨y1, y2⟩ := y
  go_enter Tryd.func3, Tryd.ntmps3
  go_wp2_with (first | (go_at_call 11; refine (wakes_any _).mono ?_; rintro e w1 ⟨rfl, hb1⟩) | (go_at_call 12; refine (H1.out _).mono ?_; rintro e w' ⟨rfl, rfl⟩) | (go_at_call 13; refine (H2.out _).mono ?_; rintro e w' ⟨rfl, rfl⟩) | (go_at_call 14; refine (H3.out _).mono ?_; rintro e w' ⟨rfl, rfl⟩) | (go_at_call 15; refine (H4.out _).mono ?_; rintro e w' ⟨rfl, rfl⟩))
  go_ret
  exact ⟨by simp, hb1⟩

set_option maxHeartbeats 400000 in
theorem divides_law (a b c : Int) (w : World) (ha : -9223372036854775808 ≤ a) (ha' : a ≤ 9223372036854775807) (hb : -9223372036854775808 ≤ b) (hb' : b ≤ 9223372036854775807) (hc : -9223372036854775808 ≤ c) (hc' : c ≤ 9223372036854775807) :
    Calls Tryd.prog 4 #[.int .i64 a, .int .i64 b, .int .i64 c] w fun e w' => e = .returned (.bool true) ∧ Below w.heap.size w w' := by
  have H1 := Lib.hid (fun w => mulDiv_any a b c w ha ha' hb hb' hc hc')
  have H2 := Lib.hid (fun w => refMulDiv_any a b c w ha ha' hb hb' hc hc')
  obtain ⟨x, hx⟩ : ∃ x, mulDiv a b c = x := ⟨_, rfl⟩
  rw [hx] at H1 H2
  clear hx
  obtain ⟨x1, x2⟩ := x
  go_enter Tryd.func4, Tryd.ntmps4
  go_wp2_with (first | (go_at_call 11; refine (wakes_any _).mono ?_; rintro e w1 ⟨rfl, hb1⟩) | (go_at_call 16; refine (H1.out _).mono ?_; rintro e w2 ⟨rfl, hb2⟩) | (go_at_call 17; refine (H2.out _).mono ?_; rintro e w3 ⟨rfl, hb3⟩))
  go_ret
  refine ⟨by simp, ?_⟩
  repeat (first | exact Below.refl _ _ | refine below_then ?_ (by assumption))

theorem cell_kept {w w' : World} (hb : Below w.heap.size w w') {a : Addr} {v : Value} (h : w.cell? a = some v) : w'.cell? a = some v := by
  have hl : a.block < w.heap.size := by
    apply Classical.byContradiction
    intro hn
    have : w.heap[a.block]? = none := Array.getElem?_eq_none (by omega)
    simp [World.cell?, this] at h
  rw [hb.cell hl]; exact h
theorem cells_kept {w w' : World} {o : Obj} (hb : Below (w.alloc o).heap.size (w.alloc o) w') (i : Nat) (v : Value) (h : (w.alloc o).cell? ⟨w.heap.size, i, none⟩ = some v) : w'.cell? ⟨w.heap.size, i, none⟩ = some v := cell_kept hb h

set_option maxHeartbeats 400000 in
theorem interest_law (p rate num den : Int) (w : World) :
    Calls Tryd.prog 5 #[.int .i64 p, .int .i64 rate, .agg #[.int .i64 num, .int .i64 den]] w fun e w' => e = .returned (.bool true) ∧ Below w.heap.size w w' := by
  have H1 := Lib.hid (fun w => interest_any p rate num den w)
  have H2 := Lib.hid (fun w => refInterest_any p rate num den w)
  obtain ⟨x, hx⟩ : ∃ x, interest p rate num den = x := ⟨_, rfl⟩
  rw [hx] at H1 H2
  clear hx
  obtain ⟨x1, x2⟩ := x
  go_enter Tryd.func5, Tryd.ntmps5
  go_wp2_with (first | (go_at_call 11; refine (wakes_any _).mono ?_; rintro e w1 ⟨rfl, hb1⟩; have c0 := cells_kept (o := .cells #[.int .i64 num, .int .i64 den] 32) hb1 0 (.int .i64 num) (by simp [go_sem]); have c1 := cells_kept (o := .cells #[.int .i64 num, .int .i64 den] 32) hb1 1 (.int .i64 den) (by simp [go_sem])) | (go_at_call 18; refine (H1.out _).mono ?_; rintro e w2 ⟨rfl, hb2⟩; have d0 := cell_kept hb2 c0; have d1 := cell_kept hb2 c1) | (go_at_call 19; refine (H2.out _).mono ?_; rintro e w3 ⟨rfl, hb3⟩))
  go_ret
  refine ⟨by simp, ?_⟩
  repeat (first | exact Below.refl _ _ | refine below_then ?_ (by assumption) | refine below_alloc ?_ _)

theorem mulDiv_self (a b : Int) (ha : -9223372036854775808 ≤ a) (ha' : a ≤ 9223372036854775807) (hb : b ≠ 0) : mulDiv a b b = (a, 0) := by
  have h0 := size_pos' b hb
  have e1 : size a * size b / size b = size a := Int.mul_ediv_cancel _ (by omega)
  have e2 : size a * size b % size b = 0 := Int.mul_emod_left _ _
  have e3 : even (size a * size b) (size b) = size a := by
    unfold even
    rw [e1, e2, if_neg (by omega)]
  have e4 : negs a b b = decide (a < 0) := by unfold negs; cases decide (a < 0) <;> cases decide (b < 0) <;> rfl
  unfold mulDiv
  rw [if_neg hb, e3, e4]
  unfold sgnd
  by_cases h : a < 0
  · rw [decide_eq_true h, if_pos rfl, if_pos (by unfold size; omega)]
    congr 1; unfold size; omega
  · rw [decide_eq_false h, if_neg (by decide), if_pos (by unfold size; omega)]
    congr 1; unfold size; omega
theorem mulDiv_comm (a b c : Int) : mulDiv b a c = mulDiv a b c := by
  have : negs b a c = negs a b c := by unfold negs; cases decide (a < 0) <;> cases decide (b < 0) <;> rfl
  unfold mulDiv
  rw [this, Int.mul_comm]
theorem sgnd_bd (q : Int) (ng : Bool) (h : 0 ≤ q) : -9223372036854775808 ≤ (sgnd q ng).1 ∧ (sgnd q ng).1 ≤ 9223372036854775807 := by
  unfold sgnd; split <;> split <;> simp <;> omega
theorem mulDiv_bd (a b c : Int) : -9223372036854775808 ≤ (mulDiv a b c).1 ∧ (mulDiv a b c).1 ≤ 9223372036854775807 := by
  unfold mulDiv
  split
  · simp
  · exact sgnd_bd _ _ (even_bd _ _ (Int.mul_nonneg (size_nonneg a) (size_nonneg b)) (size_pos' c (by assumption))).2.2
theorem mulDiv_neg (a b c y : Int) (hc : c ≠ 0) (h : mulDiv a b c = (y, 0)) (hy : -9223372036854775808 < y) : mulDiv (-a) b c = (-y, 0) := by
  unfold mulDiv at *
  rw [if_neg hc] at *
  have es : size (-a) = size a := by unfold size; omega
  rw [es]
  have q0 := (even_bd (size a * size b) (size c) (Int.mul_nonneg (size_nonneg a) (size_nonneg b)) (size_pos' c hc)).2.2
  by_cases ha : a = 0
  · subst ha
    have e : even (size 0 * size b) (size c) = 0 := by
      have : size 0 = 0 := rfl
      rw [this, Int.zero_mul]
      unfold even
      have := size_pos' c hc
      simp; omega
    rw [e] at h ⊢
    have z : ∀ ng, sgnd 0 ng = (0, 0) := fun ng => by cases ng <;> rfl
    rw [z] at h ⊢
    have : y = 0 := by simpa using (congrArg Prod.fst h).symm
    rw [this]; rfl
  · have en : negs (-a) b c = !negs a b c := by
      have : decide (-a < 0) = !decide (a < 0) := by
        by_cases h : a < 0
        · rw [decide_eq_true h, decide_eq_false (by omega)]; rfl
        · rw [decide_eq_false h, decide_eq_true (by omega)]; rfl
      unfold negs
      rw [this]
      cases decide (a < 0) <;> cases decide (b < 0) <;> cases decide (c < 0) <;> rfl
    rw [en]
    generalize even (size a * size b) (size c) = q at *
    unfold sgnd at *
    clear en
    generalize negs a b c = ng at *
    cases ng
    · rw [if_neg (by decide)] at h
      by_cases hq : q ≤ 9223372036854775807
      · rw [if_pos hq] at h
        have : q = y := by simpa using congrArg Prod.fst h
        rw [Bool.not_false, if_pos rfl, if_pos (by omega), this]
      · rw [if_neg hq] at h
        have := congrArg Prod.snd h
        simp at this
    · rw [if_pos rfl] at h
      by_cases hq : q ≤ 9223372036854775808
      · rw [if_pos hq] at h
        have : -q = y := by simpa using congrArg Prod.fst h
        rw [Bool.not_true, if_neg (by decide), if_pos (by omega)]
        congr 1; omega
      · rw [if_neg hq] at h
        have := congrArg Prod.snd h
        simp at this

set_option maxHeartbeats 1000000 in
theorem laws_law (a b c : Int) (w : World) (ha : -9223372036854775808 ≤ a) (ha' : a ≤ 9223372036854775807) (hb : -9223372036854775808 ≤ b) (hb' : b ≤ 9223372036854775807) (hc : -9223372036854775808 ≤ c) (hc' : c ≤ 9223372036854775807) :
    Calls Tryd.prog 9 #[.int .i64 a, .int .i64 b, .int .i64 c] w fun e w' => e = .returned (.bool true) ∧ Below w.heap.size w w' := by
  have H1 := Lib.hid (fun w => mulDiv_any a b b w ha ha' hb hb' hb hb')
  by_cases hb0 : b = 0
  · subst hb0
    rw [show mulDiv a 0 0 = (0, 5) from rfl] at H1
    go_enter Tryd.func9, Tryd.ntmps9
    go_wp2_with (first | (go_at_call 11; refine (wakes_any _).mono ?_; rintro e w1 ⟨rfl, hb1⟩) | (go_at_call 16; refine (H1.out _).mono ?_; rintro e w2 ⟨rfl, hb2⟩))
    go_ret
    refine ⟨by simp, ?_⟩
    repeat (first | exact Below.refl _ _ | refine below_then ?_ (by assumption))
  · have hbb : (b == 0) = false := by simp [hb0]
    rw [mulDiv_self a b ha ha' hb0] at H1
    by_cases hc0 : c = 0
    · subst hc0
      clear hb0
      go_enter Tryd.func9, Tryd.ntmps9
      go_wp2_with (first | (go_at_call 11; refine (wakes_any _).mono ?_; rintro e w1 ⟨rfl, hb1⟩) | (go_at_call 16; refine (H1.out _).mono ?_; rintro e w2 ⟨rfl, hb2⟩))
      go_ret
      refine ⟨by simp, ?_⟩
      repeat (first | exact Below.refl _ _ | refine below_then ?_ (by assumption))
    · have hcc : (c == 0) = false := by simp [hc0]
      have H2 := Lib.hid (fun w => mulDiv_any a b c w ha ha' hb hb' hc hc')
      have H3 := Lib.hid (fun w => mulDiv_any b a c w hb hb' ha ha' hc hc')
      rw [mulDiv_comm a b c] at H3
      obtain ⟨bd0, bd1⟩ := mulDiv_bd a b c
      have HN := mulDiv_neg a b c (mulDiv a b c).1 hc0
      obtain ⟨x, hx⟩ : ∃ x, mulDiv a b c = x := ⟨_, rfl⟩
      rw [hx] at H2 H3 bd0 bd1 HN
      clear hx hb0 hc0
      obtain ⟨y, f⟩ := x
      simp only at bd0 bd1 HN
      by_cases h1 : -9223372036854775808 < a
      · by_cases h2 : f = 0
        · subst h2
          by_cases h3 : -9223372036854775808 < y
          · have H4 := Lib.hid (fun w => mulDiv_any (-a) b c w (by omega) (by omega) hb hb' hc hc')
            rw [HN rfl h3] at H4
            clear HN
            go_enter Tryd.func9, Tryd.ntmps9
            go_wp2_with (first | (go_at_call 11; refine (wakes_any _).mono ?_; rintro e w1 ⟨rfl, hb1⟩) | (go_at_call 16; (with_reducible refine (H1.out _).mono ?_); rintro e w2 ⟨rfl, hb2⟩) | (go_at_call 16; (with_reducible refine (H2.out _).mono ?_); rintro e w2 ⟨rfl, hb2⟩) | (go_at_call 16; (with_reducible refine (H3.out _).mono ?_); rintro e w2 ⟨rfl, hb2⟩) | (go_at_call 16; (with_reducible refine (H4.out _).mono ?_); rintro e w2 ⟨rfl, hb2⟩))
            all_goals
              go_ret
              refine ⟨by simp, ?_⟩
              repeat (first | exact Below.refl _ _ | refine below_then ?_ (by assumption))
          · clear HN
            go_enter Tryd.func9, Tryd.ntmps9
            go_wp2_with (first | (go_at_call 11; refine (wakes_any _).mono ?_; rintro e w1 ⟨rfl, hb1⟩) | (go_at_call 16; (with_reducible refine (H1.out _).mono ?_); rintro e w2 ⟨rfl, hb2⟩) | (go_at_call 16; (with_reducible refine (H2.out _).mono ?_); rintro e w2 ⟨rfl, hb2⟩) | (go_at_call 16; (with_reducible refine (H3.out _).mono ?_); rintro e w2 ⟨rfl, hb2⟩))
            all_goals
              go_ret
              refine ⟨by simp, ?_⟩
              repeat (first | exact Below.refl _ _ | refine below_then ?_ (by assumption))
        · have h2' : (f == 0) = false := by simp [h2]
          clear HN h2
          go_enter Tryd.func9, Tryd.ntmps9
          go_wp2_with (first | (go_at_call 11; refine (wakes_any _).mono ?_; rintro e w1 ⟨rfl, hb1⟩) | (go_at_call 16; (with_reducible refine (H1.out _).mono ?_); rintro e w2 ⟨rfl, hb2⟩) | (go_at_call 16; (with_reducible refine (H2.out _).mono ?_); rintro e w2 ⟨rfl, hb2⟩) | (go_at_call 16; (with_reducible refine (H3.out _).mono ?_); rintro e w2 ⟨rfl, hb2⟩))
          all_goals
            go_ret
            refine ⟨by simp, ?_⟩
            repeat (first | exact Below.refl _ _ | refine below_then ?_ (by assumption))
      · clear HN
        go_enter Tryd.func9, Tryd.ntmps9
        go_wp2_with (first | (go_at_call 11; refine (wakes_any _).mono ?_; rintro e w1 ⟨rfl, hb1⟩) | (go_at_call 16; (with_reducible refine (H1.out _).mono ?_); rintro e w2 ⟨rfl, hb2⟩) | (go_at_call 16; (with_reducible refine (H2.out _).mono ?_); rintro e w2 ⟨rfl, hb2⟩) | (go_at_call 16; (with_reducible refine (H3.out _).mono ?_); rintro e w2 ⟨rfl, hb2⟩))
        all_goals
          go_ret
          refine ⟨by simp, ?_⟩
          repeat (first | exact Below.refl _ _ | refine below_then ?_ (by assumption))

end Go.Proofs.YtefkabkncmflpaaDoor
