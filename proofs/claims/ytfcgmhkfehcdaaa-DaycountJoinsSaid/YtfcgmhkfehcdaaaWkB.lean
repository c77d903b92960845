/-
  Walks: the months' lengths.
-/
import Derived.Test.YtfcgmhkfehcdaaaWkA
import Derived.Outline
namespace Go.Proofs.Ytfcgmhkfehcdaaa
open Go.RowKit

def lens (y : Int) : Array Value := #[.int .i64 31, .int .i64 (28 + lp y), .int .i64 31, .int .i64 30, .int .i64 31, .int .i64 30, .int .i64 31, .int .i64 31, .int .i64 30, .int .i64 31, .int .i64 30, .int .i64 31]
theorem lens_get (y m : Int) (h0 : 1 ≤ m) (h1 : m ≤ 12) : (lens y)[(m - 1).toNat]? = some (.int .i64 (mlen y m)) := by
  have : m = 1 ∨ m = 2 ∨ m = 3 ∨ m = 4 ∨ m = 5 ∨ m = 6 ∨ m = 7 ∨ m = 8 ∨ m = 9 ∨ m = 10 ∨ m = 11 ∨ m = 12 := by omega
  rcases this with rfl | rfl | rfl | rfl | rfl | rfl | rfl | rfl | rfl | rfl | rfl | rfl <;> rfl

set_option maxRecDepth 100000 in
set_option maxHeartbeats 400000 in
theorem monthLengths_any (y : Int) (w : World) (h0 : 0 ≤ y) (h1 : y ≤ 9223372036854775807) :
    Calls Try.prog 28 #[.int .i64 y] w fun e w' => e = .returned (.agg (lens y)) ∧ Below w.heap.size w w' := by
  have H := Lib.hid (fun w => isLeap_any y w h0 h1)
  have L := lp_01 y
  have arm : ∀ k : Int, (k = 0 ∨ k = 1) → lp y = k → Calls Try.prog 28 #[.int .i64 y] w fun e w' => e = .returned (.agg (lens y)) ∧ Below w.heap.size w w' := by
    intro k hk l
    unfold lens
    rw [l] at H ⊢
    clear l L
    rcases hk with rfl | rfl
    all_goals
      go_enter Try.func28, Try.ntmps28
      go_wp2_with (go_at_call 36; refine (H.out _).mono ?_; rintro e w' ⟨rfl, rfl⟩)
    · refine bodyPost_ret (v := .agg #[.int .i64 31, .int .i64 (28 + 0), .int .i64 31, .int .i64 30, .int .i64 31, .int .i64 30, .int .i64 31, .int .i64 31, .int .i64 30, .int .i64 31, .int .i64 30, .int .i64 31]) (by simp [results, Try.results28, go_sem]) rfl ⟨rfl, ?_⟩
      exact ((Below.refl _ _).alloc (Nat.le_refl _) _).alloc (by simp) _
    · refine bodyPost_ret (v := .agg #[.int .i64 31, .int .i64 (28 + 1), .int .i64 31, .int .i64 30, .int .i64 31, .int .i64 30, .int .i64 31, .int .i64 31, .int .i64 30, .int .i64 31, .int .i64 30, .int .i64 31]) (by simp [results, Try.results28, go_sem]) rfl ⟨rfl, ?_⟩
      exact ((Below.refl _ _).alloc (Nat.le_refl _) _).alloc (by simp) _
  by_cases l : lp y = 1
  · exact arm 1 (Or.inr rfl) l
  · exact arm 0 (Or.inl rfl) (by omega)

end Go.Proofs.Ytfcgmhkfehcdaaa
