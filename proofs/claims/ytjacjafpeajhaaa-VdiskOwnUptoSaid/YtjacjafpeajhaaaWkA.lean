/-
  Walks: is it a file's name, by the document.
-/
import Derived.Test.YtjacjafpeajhaaaMemF
namespace Go.Proofs.Ytjacjafpeajhaaa
open Go.RowKit

/-- A name's letter. -/
def okB (x : Int) : Bool := decide ((97 ≤ x ∧ x ≤ 122) ∨ (48 ≤ x ∧ x ≤ 57) ∨ x = 46 ∨ x = 45)
/-- A file's name. -/
def okName (s : ByteArray) : Bool := (nums s).all okB && (decide (1 ≤ s.size) && decide (s.size ≤ 32))
theorem okB_ways (x : Nat) : (97 ≤ x ∧ x ≤ 122 ∧ okB x = true) ∨ (¬ 97 ≤ x ∧ 48 ≤ x ∧ x ≤ 57 ∧ okB x = true) ∨ (x = 46 ∧ okB x = true) ∨ (x = 45 ∧ okB x = true) ∨ (97 ≤ x ∧ ¬ x ≤ 122 ∧ okB x = false) ∨ (¬ 97 ≤ x ∧ 48 ≤ x ∧ ¬ x ≤ 57 ∧ okB x = false) ∨ (¬ 48 ≤ x ∧ ¬ x = 46 ∧ ¬ x = 45 ∧ okB x = false) := by
  unfold okB
  by_cases h1 : 97 ≤ x
  · by_cases h2 : x ≤ 122
    · exact .inl ⟨h1, h2, by simp; omega⟩
    · exact .inr (.inr (.inr (.inr (.inl ⟨h1, h2, by simp; omega⟩))))
  · by_cases h3 : 48 ≤ x
    · by_cases h4 : x ≤ 57
      · exact .inr (.inl ⟨h1, h3, h4, by simp; omega⟩)
      · exact .inr (.inr (.inr (.inr (.inr (.inl ⟨h1, h3, h4, by simp; omega⟩)))))
    · by_cases h5 : x = 46
      · exact .inr (.inr (.inl ⟨h5, by simp; omega⟩))
      · by_cases h6 : x = 45
        · exact .inr (.inr (.inr (.inl ⟨h6, by simp; omega⟩)))
        · exact .inr (.inr (.inr (.inr (.inr (.inr ⟨h3, h5, h6, by simp; omega⟩)))))
theorem all_upto {p : Int → Bool} {L : List Int} {n : Nat} (hn : L.length = n) (h : ∀ (j : Nat) (x : Int), j < n → L[j]? = some x → p x = true) : L.all p = true := by
  rw [List.all_eq_true]
  intro x hx
  obtain ⟨j, hj, e⟩ := List.mem_iff_getElem.1 hx
  exact h j x (by omega) (by rw [List.getElem?_eq_getElem hj, e])
theorem all_not {p : Int → Bool} {L : List Int} {j : Nat} {x : Int} (hx : L[j]? = some x) (h : p x = false) : L.all p = false := by
  rw [Bool.eq_false_iff]
  intro e
  have := List.all_eq_true.1 e x (List.mem_of_getElem? hx)
  rw [h] at this
  cases this

theorem ret_int {k : IntKind} {a b : Int} (h : a = b) : Ending.returned (.int k a) = .returned (.int k b) := by rw [h]
theorem ret_bool {a b : Bool} (h : a = b) : Ending.returned (.bool a) = .returned (.bool b) := by rw [h]

set_option maxHeartbeats 2000000 in
theorem refName_any (s : ByteArray) (w : World) (hs : s.size ≤ 281474976710656) :
    Calls Try.prog 35 #[.string s] w fun e w' => e = .returned (.bool (okName s)) ∧ w = w' := by
  obtain ⟨b, hb⟩ : ∃ b, okName s = b := ⟨_, rfl⟩
  rw [hb]
  have HB := Lib.hid hb
  clear hb
  go_enter Try.func35, Try.ntmps35
  go_wp2_with fail
  go_loop [3] (fun t3 => ∃ k : Nat, k ≤ s.size ∧ t3 = .int .i64 k ∧ Hid (∀ (j : Nat) (x : Int), j < k → (nums s)[j]? = some x → okB x = true)) (fun t3 => s.size - (intOf t3).toNat)
  case atStart => exact ⟨0, by omega, rfl, Lib.hid (fun j x hj => by omega)⟩
  case round =>
    obtain ⟨k, hk, rfl, hf⟩ := hrel
    by_cases hlt : k < s.size
    · have HX := Lib.hid (nums_get s k hlt)
      have HO := okB_ways s[k].toNat
      rcases HO with ⟨h1, h2, h3⟩ | ⟨h1, h2, h4, h3⟩ | ⟨h1, h3⟩ | ⟨h1, h3⟩ | ⟨h1, h2, h3⟩ | ⟨h1, h2, h4, h3⟩ | ⟨h1, h2, h4, h3⟩
      iterate 4
        · have HO2 := Lib.hid h3
          clear h3
          go_wp2_with fail
          go_round
          case rel => exact ⟨k + 1, by omega, by go_num, Lib.hid (fun j x hj hx => by
            by_cases e : j = k
            · subst e; rw [HX.out] at hx; injection hx with hx; rw [← hx]; exact HO2.out
            · exact hf.out j x (by omega) hx)⟩
          case measure => simp [intOf]; omega
      · have HV : Hid (b = false) := Lib.hid (by rw [← HB.out]; unfold okName; rw [all_not HX.out h3]; rfl)
        have d1 : (decide ((s[k].toNat : Int) ≤ 122)) = false := by simp; omega
        have d2 : (decide ((s[k].toNat : Int) ≤ 57)) = false := by simp; omega
        have d3 : ((s[k].toNat : Int) == 46) = false := by simp; omega
        have d4 : ((s[k].toNat : Int) == 45) = false := by simp; omega
        clear h3
        go_wp2_with fail
        go_ret
        rw [HV.out]
        exact ⟨rfl, rfl⟩
      · have HV : Hid (b = false) := Lib.hid (by rw [← HB.out]; unfold okName; rw [all_not HX.out h3]; rfl)
        have d2 : (decide ((s[k].toNat : Int) ≤ 57)) = false := by simp; omega
        have d3 : ((s[k].toNat : Int) == 46) = false := by simp; omega
        have d4 : ((s[k].toNat : Int) == 45) = false := by simp; omega
        clear h3
        go_wp2_with fail
        go_ret
        rw [HV.out]
        exact ⟨rfl, rfl⟩
      · have HV : Hid (b = false) := Lib.hid (by rw [← HB.out]; unfold okName; rw [all_not HX.out h3]; rfl)
        have d3 : ((s[k].toNat : Int) == 46) = false := by simp; omega
        have d4 : ((s[k].toNat : Int) == 45) = false := by simp; omega
        clear h3
        go_wp2_with fail
        go_ret
        rw [HV.out]
        exact ⟨rfl, rfl⟩
    · obtain rfl : k = s.size := by omega
      have HV : Hid (b = (decide (1 ≤ s.size) && decide (s.size ≤ 32))) := Lib.hid (by rw [← HB.out]; unfold okName; rw [all_upto (nums_len s) hf.out]; rfl)
      by_cases h1 : 1 ≤ s.size
      · by_cases h2 : s.size ≤ 32
        · go_wp2_with fail
          go_ret
          exact ⟨ret_bool (by rw [HV.out]; simp [h1, h2]; try omega), rfl⟩
        · go_wp2_with fail
          go_ret
          exact ⟨ret_bool (by rw [HV.out]; simp [h1, h2]; try omega), rfl⟩
      · go_wp2_with fail
        go_ret
        exact ⟨ret_bool (by rw [HV.out]; simp [h1]), rfl⟩

end Go.Proofs.Ytjacjafpeajhaaa
