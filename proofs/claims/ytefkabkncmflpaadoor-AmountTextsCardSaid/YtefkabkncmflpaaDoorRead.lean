/-
  Walks: what is read of any text: its digits, its whole.
-/
import Derived.Test.YtefkabkncmflpaaDoorWkV
namespace Go.Proofs.YtefkabkncmflpaaDoor
open Go.RowKit

/-- Digits alone. -/
def Digs (s : ByteArray) : Prop := ∀ i (hi : i < s.size), 48 ≤ (s[i].toNat : Int) ∧ (s[i].toNat : Int) ≤ 57
instance (s : ByteArray) : Decidable (Digs s) := by unfold Digs; infer_instance

set_option maxHeartbeats 400000 in
theorem allDigits_no (s : ByteArray) (w : World) (hs : s.size ≤ 9223372036854775807) (h : ¬ Digs s) :
    Calls Tryd.prog 45 #[.string s] w fun e w' => e = .returned (.bool false) ∧ w = w' := by
  have H := Lib.hid h
  clear h
  go_enter Tryd.func45, Tryd.ntmps45
  go_wp2_with fail
  go_loop [6] (fun t6 => ∃ k : Nat, k ≤ s.size ∧ t6 = .int .i64 k ∧ Hid (∀ i (hi : i < s.size), i < k → 48 ≤ (s[i].toNat : Int) ∧ (s[i].toNat : Int) ≤ 57)) (fun t6 => s.size - (intOf t6).toNat)
  case atStart => exact ⟨0, by omega, rfl, Lib.hid fun i _ h => absurd h (by omega)⟩
  case round =>
    obtain ⟨k, hk, rfl, HK⟩ := hrel
    by_cases hlt : k < s.size
    · have hki : (k : Int) < s.size := by omega
      by_cases h1 : 48 ≤ (s[k].toNat : Int)
      · by_cases h2 : (s[k].toNat : Int) ≤ 57
        · have HK2 : Hid (∀ i (hi : i < s.size), i < k + 1 → 48 ≤ (s[i].toNat : Int) ∧ (s[i].toNat : Int) ≤ 57) := Lib.hid fun i hi h => by
            by_cases e : i = k
            · subst e; exact ⟨h1, h2⟩
            · exact HK.out i hi (by omega)
          go_wp2
          go_round
          case rel => exact ⟨k + 1, by omega, by go_num, HK2⟩
          case measure => simp [intOf]; omega
        · go_wp2
          go_ret
          exact ⟨rfl, rfl⟩
      · go_wp2
        go_ret
        exact ⟨rfl, rfl⟩
    · exact absurd (fun i hi => HK.out i hi (by omega)) H.out

theorem allDigits_any (s : ByteArray) (w : World) (hs : s.size ≤ 9223372036854775807) :
    Calls Tryd.prog 45 #[.string s] w fun e w' => e = .returned (.bool (decide (Digs s))) ∧ w = w' := by
  by_cases h : Digs s
  · rw [decide_eq_true h]; exact allDigits_yes s w hs h
  · rw [decide_eq_false h]; exact allDigits_no s w hs h

/-- A whole number as an amount's text has it. -/
def Whole (s : ByteArray) : Prop := 1 ≤ s.size ∧ s.size ≤ 17 ∧ Digs s ∧ ((∀ hi : 0 < s.size, (s[0].toNat : Int) ≠ 48) ∨ s.size = 1)
instance (s : ByteArray) : Decidable (Whole s) := by unfold Whole; infer_instance

set_option maxHeartbeats 400000 in
theorem isWhole_any (s : ByteArray) (w : World) (hs : s.size ≤ 9223372036854775807) :
    Calls Tryd.prog 44 #[.string s] w fun e w' => e = .returned (.bool (decide (Whole s))) ∧ w = w' := by
  by_cases h0 : s.size = 0
  · have hw : ¬ Whole s := fun h => by have := h.1; omega
    rw [decide_eq_false hw]
    clear hw
    go_enter Tryd.func44, Tryd.ntmps44
    go_wp2_with fail
    go_ret
    exact ⟨rfl, rfl⟩
  · by_cases h17 : s.size ≤ 17
    · have hz : ¬ (s.size : Int) = 0 := by omega
      have hz17 : (s.size : Int) ≤ 17 := by omega
      by_cases hd : Digs s
      · have hlt : 0 < s.size := by omega
        by_cases h1 : s.size = 1
        · have hw : Whole s := ⟨by omega, by omega, hd, Or.inr h1⟩
          rw [decide_eq_true hw]
          have AD := Lib.hid (fun w => allDigits_yes s w hs hd)
          clear hw hd
          go_enter Tryd.func44, Tryd.ntmps44
          go_wp2_with (go_at_call 45; refine (AD.out _).mono ?_; rintro e w' ⟨rfl, rfl⟩)
          all_goals go_ret
          all_goals exact ⟨by simp [*], rfl⟩
        · by_cases hc : (s[0].toNat : Int) = 48
          · have hw : ¬ Whole s := fun h => by
              rcases h.2.2.2 with h' | h'
              · exact h' hlt hc
              · exact h1 h'
            rw [decide_eq_false hw]
            have AD := Lib.hid (fun w => allDigits_yes s w hs hd)
            clear hw hd
            go_enter Tryd.func44, Tryd.ntmps44
            go_wp2_with (go_at_call 45; refine (AD.out _).mono ?_; rintro e w' ⟨rfl, rfl⟩)
            all_goals go_ret
            all_goals exact ⟨by simp [*] <;> omega, rfl⟩
          · have hw : Whole s := ⟨by omega, by omega, hd, Or.inl fun _ => hc⟩
            rw [decide_eq_true hw]
            have AD := Lib.hid (fun w => allDigits_yes s w hs hd)
            clear hw hd
            go_enter Tryd.func44, Tryd.ntmps44
            go_wp2_with (go_at_call 45; refine (AD.out _).mono ?_; rintro e w' ⟨rfl, rfl⟩)
            all_goals go_ret
            all_goals (refine ⟨?_, rfl⟩; rename_i hx; first | (exfalso; rcases hx with hx | hx; exact hz (eq_of_beq hx); omega) | (simp [*]; done))
      · have hw : ¬ Whole s := fun h => hd h.2.2.1
        rw [decide_eq_false hw]
        have AD := Lib.hid (fun w => allDigits_no s w hs hd)
        clear hw hd
        go_enter Tryd.func44, Tryd.ntmps44
        go_wp2_with (go_at_call 45; refine (AD.out _).mono ?_; rintro e w' ⟨rfl, rfl⟩)
        go_ret
        exact ⟨rfl, rfl⟩
    · have hw : ¬ Whole s := fun h => h17 h.2.1
      rw [decide_eq_false hw]
      have hz : ¬ (s.size : Int) = 0 := by omega
      have hz17 : ¬ (s.size : Int) ≤ 17 := by omega
      clear hw
      go_enter Tryd.func44, Tryd.ntmps44
      go_wp2_with fail
      go_ret
      exact ⟨rfl, rfl⟩

/-- What CutPrefix answers of a text and a minus sign. -/
abbrev CutsTo (s d : ByteArray) (neg : Bool) : Prop := ∀ w, Calls Tryd.prog 42 #[.string s, .string ⟨#[45]⟩] w fun e w' => e = .returned (.tuple #[.string d, .bool neg]) ∧ w = w'

set_option maxHeartbeats 400000 in
theorem read_none (s d : ByteArray) (neg : Bool) (w : World) (CP : CutsTo s d neg) (hs : d.size ≤ 9223372036854775807) (hx : Lib.indexByte d.data.toList 46 = -1) :
    Calls Tryd.prog 25 #[.string s] w fun e w' => e = .returned (.tuple #[.int .i64 0, .int .i64 7]) ∧ Below w.heap.size w w' := by
  have C0 := Lib.hid CP
  have C1 := Lib.hid (fun w => cutDot_no d w hx)
  clear CP hx
  by_cases hw : Whole d
  · have WH := Lib.hid (fun w => isWhole_any d w hs)
    simp only [decide_eq_true hw] at WH
    clear hw
    go_enter Tryd.func25, Tryd.ntmps25
    go_wp2_with (first | (go_at_call 42; refine (C0.out _).mono ?_; rintro e w' ⟨rfl, rfl⟩) | (go_at_call 43; refine (C1.out _).mono ?_; rintro e w' ⟨rfl, rfl⟩) | (go_at_call 44; refine (WH.out _).mono ?_; rintro e w' ⟨rfl, rfl⟩))
    go_ret2
    exact ⟨rfl, Below.refl _ _⟩
  · have WH := Lib.hid (fun w => isWhole_any d w hs)
    simp only [decide_eq_false hw] at WH
    clear hw
    go_enter Tryd.func25, Tryd.ntmps25
    go_wp2_with (first | (go_at_call 42; refine (C0.out _).mono ?_; rintro e w' ⟨rfl, rfl⟩) | (go_at_call 43; refine (C1.out _).mono ?_; rintro e w' ⟨rfl, rfl⟩) | (go_at_call 44; refine (WH.out _).mono ?_; rintro e w' ⟨rfl, rfl⟩))
    go_ret2
    exact ⟨rfl, Below.refl _ _⟩

set_option maxHeartbeats 400000 in
theorem read_bad (s d wh pt : ByteArray) (neg : Bool) (w : World) (CP : CutsTo s d neg) (CD : ∀ w, Calls Tryd.prog 43 #[.string d, .string ⟨#[46]⟩] w fun e w' => e = .returned (.tuple #[.string wh, .string pt, .bool true]) ∧ ∃ n, w' = w.drewN n)
    (hw : wh.size ≤ 9223372036854775807) (hp : pt.size ≤ 9223372036854775807) (hb : ¬ (Whole wh ∧ pt.size = 2 ∧ Digs pt)) :
    Calls Tryd.prog 25 #[.string s] w fun e w' => e = .returned (.tuple #[.int .i64 0, .int .i64 7]) ∧ Below w.heap.size w w' := by
  have C0 := Lib.hid CP
  have C1 := Lib.hid CD
  clear CP CD
  have WH := Lib.hid (fun w => isWhole_any wh w hw)
  have DG := Lib.hid (fun w => allDigits_any pt w hp)
  by_cases h1 : Whole wh
  · simp only [decide_eq_true h1] at WH
    by_cases h2 : pt.size = 2
    · have h3 : ¬ Digs pt := fun h => hb ⟨h1, h2, h⟩
      simp only [decide_eq_false h3] at DG
      have h2i : (pt.size : Int) = 2 := by omega
      clear h1 h3 hb
      go_enter Tryd.func25, Tryd.ntmps25
      go_wp2_with (first | (go_at_call 42; refine (C0.out _).mono ?_; rintro e w' ⟨rfl, rfl⟩) | (go_at_call 43; refine (C1.out _).mono ?_; rintro e w' ⟨rfl, n, rfl⟩) | (go_at_call 44; refine (WH.out _).mono ?_; rintro e w' ⟨rfl, rfl⟩) | (go_at_call 45; refine (DG.out _).mono ?_; rintro e w' ⟨rfl, rfl⟩))
      all_goals go_ret2
      all_goals exact ⟨rfl, drewN_below _ _ _⟩
    · have h2i : ¬ (pt.size : Int) = 2 := by omega
      clear h1 hb
      go_enter Tryd.func25, Tryd.ntmps25
      go_wp2_with (first | (go_at_call 42; refine (C0.out _).mono ?_; rintro e w' ⟨rfl, rfl⟩) | (go_at_call 43; refine (C1.out _).mono ?_; rintro e w' ⟨rfl, n, rfl⟩) | (go_at_call 44; refine (WH.out _).mono ?_; rintro e w' ⟨rfl, rfl⟩) | (go_at_call 45; refine (DG.out _).mono ?_; rintro e w' ⟨rfl, rfl⟩))
      all_goals go_ret2
      all_goals exact ⟨rfl, drewN_below _ _ _⟩
  · simp only [decide_eq_false h1] at WH
    clear h1 hb
    go_enter Tryd.func25, Tryd.ntmps25
    go_wp2_with (first | (go_at_call 42; refine (C0.out _).mono ?_; rintro e w' ⟨rfl, rfl⟩) | (go_at_call 43; refine (C1.out _).mono ?_; rintro e w' ⟨rfl, n, rfl⟩) | (go_at_call 44; refine (WH.out _).mono ?_; rintro e w' ⟨rfl, rfl⟩) | (go_at_call 45; refine (DG.out _).mono ?_; rintro e w' ⟨rfl, rfl⟩))
    all_goals go_ret2
    all_goals exact ⟨rfl, drewN_below _ _ _⟩

/-- What a number with its sign makes: the amount, or that it is too great. -/
def signV (x : Int) (neg : Bool) : Int × Int :=
  if neg then (if x ≤ 9223372036854775808 then (-x, 0) else (0, 4)) else (if x ≤ 9223372036854775807 then (x, 0) else (0, 4))
theorem signed_any (x : Int) (neg : Bool) (w : World) (h0 : 0 ≤ x) (h1 : x < 18446744073709551616) :
    Calls Tryd.prog 47 #[.int .u64 x, .bool neg] w fun e w' => e = .returned (.tuple #[.int .i64 (signV x neg).1, .int .i64 (signV x neg).2]) ∧ w = w' := by
  unfold signV
  cases neg
  · by_cases h : x ≤ 9223372036854775807
    · simpa [h] using signed_pos x w h0 h
    · simpa [h] using signed_pos_over x w (by omega) h1
  · by_cases h : x ≤ 9223372036854775808
    · simpa [h] using signed_neg x w h0 h
    · simpa [h] using signed_neg_over x w (by omega) h1
/-- What is read where the form is kept. -/
def finV (x : Int) (neg : Bool) : Int × Int := if neg = true ∧ x = 0 then (0, 7) else signV x neg

set_option maxHeartbeats 400000 in
theorem read_good (s d wh pt : ByteArray) (neg : Bool) (w : World) (CP : CutsTo s d neg) (CD : ∀ w, Calls Tryd.prog 43 #[.string d, .string ⟨#[46]⟩] w fun e w' => e = .returned (.tuple #[.string wh, .string pt, .bool true]) ∧ ∃ n, w' = w.drewN n)
    (h1 : Whole wh) (h2 : pt.size = 2) (h3 : Digs pt) (h4 : Digs (wh ++ pt)) (h5 : (wh ++ pt).size ≤ 19) (x : Int) (hx : numTo (wh ++ pt).data.toList (wh ++ pt).size = x) (x0 : 0 ≤ x) (x1 : x < 18446744073709551616) :
    Calls Tryd.prog 25 #[.string s] w fun e w' => e = .returned (.tuple #[.int .i64 (finV x neg).1, .int .i64 (finV x neg).2]) ∧ Below w.heap.size w w' := by
  have C0 := Lib.hid CP
  have C1 := Lib.hid CD
  clear CP CD
  have w17 := h1.2.1
  have WH := Lib.hid (fun w => isWhole_any wh w (by omega))
  have DG := Lib.hid (fun w => allDigits_any pt w (by omega))
  simp only [decide_eq_true h1] at WH
  simp only [decide_eq_true h3] at DG
  have NU := Lib.hid (fun w => number_any (wh ++ pt) w h5 h4)
  rw [hx] at NU
  have SG := Lib.hid (fun w => signed_any x neg w x0 x1)
  obtain ⟨v, hv⟩ : ∃ v, finV x neg = v := ⟨_, rfl⟩
  obtain ⟨u, hu⟩ : ∃ u, signV x neg = u := ⟨_, rfl⟩
  rw [hu] at SG
  rw [hv]
  have HV : Hid ((neg = true ∧ x = 0 ∧ v = (0, 7)) ∨ (¬ (neg = true ∧ x = 0) ∧ v = u)) := Lib.hid (by
    unfold finV at hv
    by_cases h : neg = true ∧ x = 0
    · rw [if_pos h] at hv; exact Or.inl ⟨h.1, h.2, hv.symm⟩
    · rw [if_neg h, hu] at hv; exact Or.inr ⟨h, hv.symm⟩)
  have h2i : (pt.size : Int) = 2 := by omega
  have w17i : (wh.size : Int) ≤ 17 := by omega
  clear h1 h3 h4 h5 hx hu hv
  go_enter Tryd.func25, Tryd.ntmps25
  go_upto_region 6 with (first | (go_at_call 42; refine (C0.out _).mono ?_; rintro e w' ⟨rfl, rfl⟩) | (go_at_call 43; refine (C1.out _).mono ?_; rintro e w' ⟨rfl, n, rfl⟩) | (go_at_call 44; refine (WH.out _).mono ?_; rintro e w' ⟨rfl, rfl⟩) | (go_at_call 45; refine (DG.out _).mono ?_; rintro e w' ⟨rfl, rfl⟩) | (go_at_call 46; refine (NU.out _).mono ?_; rintro e w' ⟨rfl, rfl⟩))
  rcases HV.out with ⟨rfl, rfl, rfl⟩ | ⟨hn, rfl⟩
  · go_wp2_with fail
    go_ret2
    exact ⟨rfl, drewN_below _ _ _⟩
  · cases neg
    · go_wp2_with (go_at_call 47; refine (SG.out _).mono ?_; rintro e w' ⟨rfl, rfl⟩)
      go_ret2
      exact ⟨rfl, drewN_below _ _ _⟩
    · have hx0 : ¬ x = 0 := fun h => hn ⟨rfl, h⟩
      clear hn
      go_wp2_with (go_at_call 47; refine (SG.out _).mono ?_; rintro e w' ⟨rfl, rfl⟩)
      go_ret2
      exact ⟨rfl, drewN_below _ _ _⟩

end Go.Proofs.YtefkabkncmflpaaDoor
