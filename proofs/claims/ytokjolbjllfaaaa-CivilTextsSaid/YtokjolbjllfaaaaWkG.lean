/-
  Walks: the document's text of a day.
-/
import Derived.Test.YtokjolbjllfaaaaWkF
import Derived.Deep.QuietTactic
import Derived.BigQuiet
namespace Go.Proofs.Ytokjolbjllfaaaa
open Go.RowKit

theorem drewN_below (B : Nat) (w : World) (n : Nat) : Below B w (w.drewN n) := ⟨rfl, rfl, rfl, Nat.le_refl _, fun _ _ => rfl⟩
theorem digit_at (q : Nat) (h : q < 10) (w : World) : (Instr.slice 9 (.string ⟨#[48, 49, 50, 51, 52, 53, 54, 55, 56, 57]⟩) (some (.int .i64 (q : Int))) (some (.int .i64 ((q : Int) + 1))) none).run Try.prog w = .ok (.string ⟨#[UInt8.ofNat (48 + q)]⟩) w := by
  have : q = 0 ∨ q = 1 ∨ q = 2 ∨ q = 3 ∨ q = 4 ∨ q = 5 ∨ q = 6 ∨ q = 7 ∨ q = 8 ∨ q = 9 := by omega
  rcases this with rfl | rfl | rfl | rfl | rfl | rfl | rfl | rfl | rfl | rfl <;> clear h <;> show _ = _ <;> kernel_rfl

set_option maxHeartbeats 400000 in
theorem two_any (n : Nat) (w : World) (h : n < 100) :
    Calls Try.prog 30 #[.int .i64 n] w fun e w' => e = .returned (.string (digB 2 n)) ∧ ∃ k, w' = w.drewN k := by
  obtain ⟨q, hq⟩ : ∃ q, n / 10 = q := ⟨_, rfl⟩
  obtain ⟨r, hr⟩ : ∃ r, n % 10 = r := ⟨_, rfl⟩
  have E : digB 2 n = ⟨#[UInt8.ofNat (48 + q), UInt8.ofNat (48 + r)]⟩ := by rw [digB_two, hr, hq, Nat.mod_eq_of_lt (show q < 10 by omega)]
  rw [E]
  have e1 : (n : Int) / 10 = q := by omega
  have e2 : (n : Int) % 10 = r := by omega
  have DQ := fun w => digit_at q (by omega) w
  have DR := fun w => digit_at r (by omega) w
  have q1 : IntKind.i64.wrap ((q : Int) + 1) = (q : Int) + 1 := IntWalk.i64_in _ (by omega)
  have r1 : IntKind.i64.wrap ((r : Int) + 1) = (r : Int) + 1 := IntWalk.i64_in _ (by omega)
  clear hq hr E
  go_enter Try.func30, Try.ntmps30
  go_wp2
  go_quiet (fail)
  go_wp2
  go_ret
  exact ⟨congrArg (fun b => Ending.returned (.string b)) (by apply ByteArray.ext; simp [ByteArray.data_append]), nq, rfl⟩

theorem textR_join (y m d : Nat) (_h : y < 10000) : digB 2 (y / 100) ++ digB 2 (y % 100) ++ ⟨#[45]⟩ ++ digB 2 m ++ ⟨#[45]⟩ ++ digB 2 d = textB y m d := by
  have e1 : y / 100 / 10 % 10 = y / 10 / 10 / 10 % 10 := by omega
  have e2 : y / 100 % 10 = y / 10 / 10 % 10 := by omega
  have e3 : y % 100 / 10 % 10 = y / 10 % 10 := by omega
  have e4 : y % 100 % 10 = y % 10 := by omega
  rw [digB_two, digB_two, digB_two, digB_two, e1, e2, e3, e4]
  apply ByteArray.ext
  simp [ByteArray.data_append, textB]

set_option maxRecDepth 100000 in
set_option maxHeartbeats 1000000 in
theorem textR_yes (y m d : Int) (w : World) (v : Valid y m d) :
    Calls Try.prog 19 #[.int .i64 (num y m d)] w fun e w' => e = .returned (.tuple #[.string (textB y m d), .int .i64 0]) ∧ Below w.heap.size w w' := by
  have H := Lib.hid (fun w => splitR_yes y m d w v)
  obtain ⟨v1, v2, v3, v4, v5, v6⟩ := v
  have v7 := mlen_bd y m
  generalize num y m d = n at H ⊢
  obtain ⟨y, rfl⟩ : ∃ a : Nat, y = a := ⟨y.toNat, by omega⟩
  obtain ⟨m, rfl⟩ : ∃ a : Nat, m = a := ⟨m.toNat, by omega⟩
  obtain ⟨d, rfl⟩ : ∃ a : Nat, d = a := ⟨d.toNat, by omega⟩
  obtain ⟨p, hp⟩ : ∃ p, y / 100 = p := ⟨_, rfl⟩
  obtain ⟨q, hq⟩ : ∃ q, y % 100 = q := ⟨_, rfl⟩
  have TJ0 := textR_join y m d (by omega)
  rw [hp, hq] at TJ0
  have TJ := Lib.hid TJ0
  clear TJ0
  have e1 : (y : Int) / 100 = p := by omega
  have e2 : (y : Int) % 100 = q := by omega
  have A1 := Lib.hid (fun w => two_any p w (by omega))
  have A2 := Lib.hid (fun w => two_any q w (by omega))
  have A3 := Lib.hid (fun w => two_any m w (by omega))
  have A4 := Lib.hid (fun w => two_any d w (by omega))
  clear v6 v7 hp hq
  go_enter Try.func19, Try.ntmps19
  go_wp2_with (first | (go_at_call 13; refine (H.out _).mono ?_; rintro e w1 ⟨rfl, rfl⟩) | (go_at_call 30; (with_reducible refine (A1.out _).mono ?_); rintro e w2 ⟨rfl, k1, rfl⟩) | (go_at_call 30; (with_reducible refine (A2.out _).mono ?_); rintro e w3 ⟨rfl, k2, rfl⟩) | (go_at_call 30; (with_reducible refine (A3.out _).mono ?_); rintro e w4 ⟨rfl, k3, rfl⟩) | (go_at_call 30; (with_reducible refine (A4.out _).mono ?_); rintro e w5 ⟨rfl, k4, rfl⟩))
  go_ret2
  refine ⟨congrArg (fun b => Ending.returned (.tuple #[.string b, .int .i64 0])) TJ.out, ?_⟩
  exact drewN_below _ _ _

/-! a text that is read -/
/-- What its place asks of a byte. -/
def Fits (k : Nat) (c : Int) : Prop := if k = 4 ∨ k = 7 then c = 45 else 48 ≤ c ∧ c ≤ 57
instance (k : Nat) (c : Int) : Decidable (Fits k c) := by unfold Fits; infer_instance
/-- A day's form. -/
def Form (s : ByteArray) : Prop := s.size = 10 ∧ ∀ k (h : k < s.size), Fits k (s[k].toNat : Int)

set_option maxRecDepth 100000 in
set_option maxHeartbeats 1000000 in
theorem isForm_yes (s : ByteArray) (w : World) (h : Form s) :
    Calls Try.prog 31 #[.string s] w fun e w' => e = .returned (.bool true) ∧ w = w' := by
  obtain ⟨hs, hf⟩ := h
  have H := Lib.hid hf
  clear hf
  have hsi : (s.size : Int) = 10 := by omega
  go_enter Try.func31, Try.ntmps31
  go_wp2
  go_loop [7] (fun t7 => ∃ k : Nat, k ≤ 10 ∧ t7 = .int .i64 k) (fun t7 => 10 - (intOf t7).toNat)
  case atStart => exact ⟨0, by omega, rfl⟩
  case round =>
    obtain ⟨k, hk, rfl⟩ := hrel
    by_cases hlt : k < 10
    · have F := H.out k (by omega)
      have hki : (k : Int) < 10 := by omega
      have hks : k < s.size := by omega
      by_cases k4 : k = 4
      · subst k4
        have F' : (s[4].toNat : Int) = 45 := F
        have F2 : ((s[4].toNat : Int) != 45) = false := by simpa using F'
        clear F F'
        go_wp2
        go_round
        case rel => exact ⟨5, by omega, rfl⟩
        case measure => simp [intOf]
      · by_cases k7 : k = 7
        · subst k7
          have F' : (s[7].toNat : Int) = 45 := F
          have F2 : ((s[7].toNat : Int) != 45) = false := by simpa using F'
          clear F F'
          go_wp2
          go_round
          case rel => exact ⟨8, by omega, rfl⟩
          case measure => simp [intOf]
        · unfold Fits at F
          rw [if_neg (by omega)] at F
          obtain ⟨f1, f2⟩ := F
          have c4 : ((k : Int) == 4) = false := by simp; omega
          have c7 : ((k : Int) == 7) = false := by simp; omega
          have g1 : decide ((s[k].toNat : Int) < 48) = false := by simpa using f1
          have g2 : decide (57 < (s[k].toNat : Int)) = false := by simpa using f2
          clear f1 f2 k4 k7
          go_wp2
          go_round
          case rel => exact ⟨k + 1, by omega, by go_num⟩
          case measure => simp [intOf]; omega
    · obtain rfl : k = 10 := by omega
      go_wp2
      go_ret
      exact ⟨rfl, rfl⟩

end Go.Proofs.Ytokjolbjllfaaaa
