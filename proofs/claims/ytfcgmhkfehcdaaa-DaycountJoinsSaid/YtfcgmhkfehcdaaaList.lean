/-
  Lists of whole numbers in memory; two lists compared.
-/
import Derived.Test.YtfcgmhkfehcdaaaWkE
import Derived.Deep.QuietTactic
import Derived.BigQuiet
import Derived.Below
namespace Go.Proofs.Ytfcgmhkfehcdaaa
open Go.RowKit

theorem drewN_below (B : Nat) (w : World) (n : Nat) : Below B w (w.drewN n) := ⟨rfl, rfl, rfl, Nat.le_refl _, fun _ _ => rfl⟩
theorem row_below {B : Nat} {w w' : World} {b t n : Nat} {f : Nat → Value} (h : w.rowIs b t n f) (hb : Below B w w') (hB : b < B) : w'.rowIs b t n f := h.of_block (hb.block b hB)
theorem row_kept {w w' : World} {b t n : Nat} {f : Nat → Value} (h : w.rowIs b t n f) (hb : Below w.heap.size w w') : w'.rowIs b t n f := row_below h hb h.lt
theorem add_head (g i : Nat) : (⟨g, 0, none⟩ : Addr).add i = ⟨g, i, none⟩ := by
  unfold Addr.add
  split
  · next h => rw [h]
  · simp

theorem info3 : (Try.prog.info? 3).map (fun i => (i.zero, i.size, i.bytes)) = some (some (.int .i64 0), 1, 8) := by kernel_rfl

/-- A list of K numbers G above block B. -/
def RowAt (w : World) (B K : Nat) (G : Nat → Int) (A : Option Addr) : Prop := K = 0 ∨ ∃ g, A = some ⟨g, 0, none⟩ ∧ B ≤ g ∧ g < w.heap.size ∧ ∀ i, i < K → w.cell? ⟨g, i, none⟩ = some (.int .i64 (G i))
theorem RowAt.kept {w w' : World} {B K : Nat} {G : Nat → Int} {A : Option Addr} (h : RowAt w B K G A) (hb : Below w.heap.size w w') : RowAt w' B K G A := by
  rcases h with h | ⟨g, h1, h2, h3, h4⟩
  · exact .inl h
  · exact .inr ⟨g, h1, h2, Nat.lt_of_lt_of_le h3 hb.size, fun i hi => by rw [hb.cell (p := ⟨g, i, none⟩) h3]; exact h4 i hi⟩
/-- A list of K numbers G as it reads. -/
def CellsAt (w : World) (K : Nat) (G : Nat → Int) (A : Option Addr) : Prop := K = 0 ∨ ∃ ad, A = some ad ∧ ∀ i, i < K → w.cell? (ad.add i) = some (.int .i64 (G i))
theorem RowAt.cells {w : World} {B K : Nat} {G : Nat → Int} {A : Option Addr} (h : RowAt w B K G A) : CellsAt w K G A := by
  rcases h with h | ⟨g, h1, h2, h3, h4⟩
  · exact .inl h
  · exact .inr ⟨_, h1, fun i hi => by rw [add_head]; exact h4 i hi⟩
/-- A list of K numbers G behind a call, and its error. -/
def Res (w : World) (K : Nat) (G : Nat → Int) (er : Int) (e : Ending) (w' : World) : Prop :=
  ∃ A c, e = .returned (.tuple #[.slice A K c, .int .i64 er]) ∧ RowAt w' w.heap.size K G A ∧ Below w.heap.size w w'
theorem res_none {w w' : World} {G : Nat → Int} {er : Int} {e : Ending} (h : e = .returned (.tuple #[.slice none 0 0, .int .i64 er]) ∧ w = w') : Res w 0 G er e w' := by
  obtain ⟨rfl, rfl⟩ := h
  exact ⟨none, 0, rfl, .inl rfl, Below.refl _ _⟩

theorem same_any (g h : Addr) (n c d : Nat) (f k : Nat → Int) (w : World) (hn : n ≤ 9223372036854775807) (hf : ∀ i, i < n → w.cell? (g.add i) = some (.int .i64 (f i))) (hk : ∀ i, i < n → w.cell? (h.add i) = some (.int .i64 (k i))) (he : ∀ i, i < n → f i = k i) :
    Calls Try.prog 11 #[.slice (some g) n c, .slice (some h) n d] w fun e w' => e = .returned (.bool true) ∧ Below w.heap.size w w' := by
  have HF := Lib.hid hf
  have HK := Lib.hid hk
  have HE := Lib.hid he
  clear hf hk he
  go_enter Try.func11, Try.ntmps11
  go_wp2_with fail
  go_loopw [13] (fun t13 wr => ∃ i q : Nat, i ≤ n ∧ t13 = .int .i64 i ∧ wr = w.drewN q) (fun t13 _ => n - (intOf t13).toNat)
  case atStart => exact ⟨0, 0, by omega, rfl, rfl⟩
  case round =>
    obtain ⟨i, q, hi, rfl, rfl⟩ := hrel
    by_cases hlt : i < n
    · have c1 := HF.out i hlt
      have c2 := HK.out i hlt
      have hij : (i : Int) < n := by omega
      rw [HE.out i hlt] at c1
      generalize k i = x at c1 c2
      go_wp2_with fail
      go_quiet (fail)
      go_wp2_with fail
      go_roundw
      case rel => exact ⟨i + 1, q + nq, by omega, by go_num, rfl⟩
      case measure => simp [intOf]; omega
    · obtain rfl : i = n := by omega
      go_wp2_with fail
      go_ret
      exact ⟨rfl, drewN_below _ _ _⟩

/-- Two empty lists, nil or not. -/
theorem same_none (A B : Option Addr) (c d : Nat) (w : World) :
    Calls Try.prog 11 #[.slice A 0 c, .slice B 0 d] w fun e w' => e = .returned (.bool true) ∧ Below w.heap.size w w' := by
  go_enter Try.func11, Try.ntmps11
  go_wp2_with fail
  go_loop [13] (fun t13 => t13 = .int .i64 0) (fun _ => 0)
  case atStart => rfl
  case round =>
    subst hrel
    go_wp2_with fail
    go_ret
    exact ⟨rfl, Below.refl _ _⟩

theorem same_res (K : Nat) (G : Nat → Int) (A B : Option Addr) (c d : Nat) (w : World) (hK : K ≤ 9223372036854775807) (hA : CellsAt w K G A) (hB : CellsAt w K G B) :
    Calls Try.prog 11 #[.slice A K c, .slice B K d] w fun e w' => e = .returned (.bool true) ∧ Below w.heap.size w w' := by
  by_cases h0 : K = 0
  · subst h0; exact same_none A B c d w
  · obtain ⟨g, rfl, hg⟩ := hA.resolve_left h0
    obtain ⟨h, rfl, hh⟩ := hB.resolve_left h0
    exact same_any g h K c d G G w hK hg hh fun _ _ => rfl

end Go.Proofs.Ytfcgmhkfehcdaaa
