/-
  Walks: a text that is no day's form; numbers out of digits; a day that is read.
-/
import Derived.Test.YtokjolbjllfaaaaWkG
import Derived.RegionTactic
import Derived.Deep.RegionWith
namespace Go.Proofs.Ytokjolbjllfaaaa
open Go.RowKit

set_option maxRecDepth 100000 in
set_option maxHeartbeats 1000000 in
theorem isForm_no (s : ByteArray) (w : World) (_hs : s.size ≤ 9223372036854775807) (h : ¬ Form s) :
    Calls Try.prog 31 #[.string s] w fun e w' => e = .returned (.bool false) ∧ w = w' := by
  by_cases h10 : s.size = 10
  · have hsi : (s.size : Int) = 10 := by omega
    have H : Hid (¬ ∀ k (h : k < s.size), Fits k (s[k].toNat : Int)) := Lib.hid (fun g => h ⟨h10, g⟩)
    clear h
    go_enter Try.func31, Try.ntmps31
    go_wp2
    go_loop [7] (fun t7 => ∃ k : Nat, k ≤ 10 ∧ t7 = .int .i64 k ∧ Hid (∀ j (h : j < s.size), j < k → Fits j (s[j].toNat : Int))) (fun t7 => 10 - (intOf t7).toNat)
    case atStart => exact ⟨0, by omega, rfl, Lib.hid (fun _ _ h => absurd h (by omega))⟩
    case round =>
      obtain ⟨k, hk, rfl, hp⟩ := hrel
      have hlt : k < 10 := by
        apply Classical.byContradiction
        intro g
        exact H.out fun j h => hp.out j h (by omega)
      have hks : k < s.size := by omega
      have hki : (k : Int) < 10 := by omega
      by_cases F : Fits k (s[k].toNat : Int)
      · have N : Hid (∀ j (h : j < s.size), j < k + 1 → Fits j (s[j].toNat : Int)) := Lib.hid (fun j h g => by
          by_cases e : j = k
          · subst e; exact F
          · exact hp.out j h (by omega))
        clear H hp
        by_cases k4 : k = 4
        · subst k4
          have F' : (s[4].toNat : Int) = 45 := F
          have F2 : ((s[4].toNat : Int) != 45) = false := by simpa using F'
          clear F F'
          go_wp2
          go_round
          case rel => exact ⟨5, by omega, rfl, N⟩
          case measure => simp [intOf]
        · by_cases k7 : k = 7
          · subst k7
            have F' : (s[7].toNat : Int) = 45 := F
            have F2 : ((s[7].toNat : Int) != 45) = false := by simpa using F'
            clear F F'
            go_wp2
            go_round
            case rel => exact ⟨8, by omega, rfl, N⟩
            case measure => simp [intOf]
          · unfold Fits at F
            rw [if_neg (by omega)] at F
            obtain ⟨f1, f2⟩ := F
            have c4 : ((k : Int) == 4) = false := by simp; omega
            have c7 : ((k : Int) == 7) = false := by simp; omega
            have g1 : decide ((s[k].toNat : Int) < 48) = false := by simpa using f1
            have g2 : decide (57 < (s[k].toNat : Int)) = false := by simpa using f2
            clear f1 f2 k4 k7
            go_wp2
            go_round
            case rel => exact ⟨k + 1, by omega, by go_num, N⟩
            case measure => simp [intOf]; omega
      · clear H hp
        by_cases k4 : k = 4
        · subst k4
          have F' : ¬ (s[4].toNat : Int) = 45 := F
          have F2 : ((s[4].toNat : Int) != 45) = true := by simpa using F'
          clear F F'
          go_wp2
          go_ret
          exact ⟨rfl, rfl⟩
        · by_cases k7 : k = 7
          · subst k7
            have F' : ¬ (s[7].toNat : Int) = 45 := F
            have F2 : ((s[7].toNat : Int) != 45) = true := by simpa using F'
            clear F F'
            go_wp2
            go_ret
            exact ⟨rfl, rfl⟩
          · unfold Fits at F
            rw [if_neg (by omega)] at F
            have c4 : ((k : Int) == 4) = false := by simp; omega
            have c7 : ((k : Int) == 7) = false := by simp; omega
            by_cases f1 : (s[k].toNat : Int) < 48
            · clear F k4 k7
              go_wp2
              go_ret
              exact ⟨rfl, rfl⟩
            · have g1 : decide ((s[k].toNat : Int) < 48) = false := by simpa using f1
              have g2 : 57 < (s[k].toNat : Int) := by omega
              clear F f1 k4 k7
              go_wp2
              go_ret
              exact ⟨rfl, rfl⟩
  · have h2 : ((s.size : Int) != 10) = true := by simp; omega
    clear h h10
    go_enter Try.func31, Try.ntmps31
    go_wp2
    go_ret
    exact ⟨rfl, rfl⟩

/-- The number that so many bytes tell, from the first on. -/
def nt (f : Nat → Int) : Nat → Int
  | 0 => 0
  | k + 1 => 10 * nt f k + f k
theorem nt_bd (f : Nat → Int) (n : Nat) (h : ∀ i, i < n → 0 ≤ f i ∧ f i ≤ 9) : ∀ k, k ≤ n → k ≤ 4 → 0 ≤ nt f k ∧ nt f k ≤ 9999 := by
  have key : ∀ k, k ≤ n → 0 ≤ nt f k ∧ nt f k < 10 ^ k := by
    intro k
    induction k with
    | zero => intro _; simp [nt]
    | succ k ih =>
      intro hk
      have := ih (by omega)
      have := h k (by omega)
      rw [nt, Int.pow_succ]
      generalize (10 : Int) ^ k = P at *
      omega
  intro k hk k4
  have := key k hk
  have : (10 : Int) ^ k ≤ 10 ^ 4 := by
    have := Nat.pow_le_pow_right (n := 10) (by omega) k4
    exact_mod_cast this
  omega
theorem nt_congr (f g : Nat → Int) : ∀ n, (∀ i, i < n → f i = g i) → nt f n = nt g n
  | 0, _ => rfl
  | n + 1, h => by rw [nt, nt, nt_congr f g n (fun i hi => h i (by omega)), h n (by omega)]

/-- A byte as a digit. -/
def dg (s : ByteArray) (i : Nat) : Int := ((s.data.toList.getD i 0).toNat : Int) - 48
theorem dg_at (s : ByteArray) (i : Nat) (h : i < s.size) : dg s i = (s[i].toNat : Int) - 48 := by
  unfold dg
  rw [List.getD_eq_getElem?_getD, List.getElem?_eq_getElem (by simpa using h)]
  rfl
theorem dg_extract (s : ByteArray) (a b i : Nat) (h : a + i < b) (hb : b ≤ s.size) : dg (s.extract a b) i = dg s (a + i) := by
  rw [dg_at _ _ (by simp; omega), dg_at _ _ (by omega)]
  rw [ByteArray.getElem_extract]

set_option maxHeartbeats 400000 in
theorem number_any (s : ByteArray) (w : World) (hs : s.size ≤ 4) (h : ∀ i, i < s.size → 0 ≤ dg s i ∧ dg s i ≤ 9) :
    Calls Try.prog 32 #[.string s] w fun e w' => e = .returned (.int .i64 (nt (dg s) s.size)) ∧ w = w' := by
  have H := Lib.hid h
  have B := Lib.hid (nt_bd (dg s) s.size h)
  clear h
  go_enter Try.func32, Try.ntmps32
  go_wp2
  go_loop [3, 7] (fun t3 t7 => ∃ k : Nat, k ≤ s.size ∧ t3 = .int .i64 (nt (dg s) k) ∧ t7 = .int .i64 k) (fun _ t7 => s.size - (intOf t7).toNat)
  case atStart => exact ⟨0, by omega, rfl, rfl⟩
  case round =>
    obtain ⟨k, hk, rfl, rfl⟩ := hrel
    by_cases hlt : k < s.size
    · obtain ⟨b0, b1⟩ := B.out k hk (by omega)
      have D := H.out k hlt
      rw [dg_at s k hlt] at D
      obtain ⟨d0, d1⟩ := D
      have S := Lib.hid (show nt (dg s) (k + 1) = 10 * nt (dg s) k + ((s[k].toNat : Int) - 48) by rw [nt, dg_at s k hlt])
      generalize nt (dg s) k = x at *
      have hki : (k : Int) < s.size := by omega
      have e0 : IntKind.u8.wrap ((s[k].toNat : Int) - 48) = (s[k].toNat : Int) - 48 := by rw [IntKind.wrap_u8]; omega
      go_wp2
      go_round
      case rel => exact ⟨k + 1, by omega, by rw [S.out], by go_num⟩
      case measure => simp [intOf]; omega
    · obtain rfl : k = s.size := by omega
      go_wp2
      go_ret
      exact ⟨rfl, rfl⟩

def rdY (s : ByteArray) : Int := nt (dg s) 4
def rdM (s : ByteArray) : Int := nt (fun i => dg s (5 + i)) 2
def rdD (s : ByteArray) : Int := nt (fun i => dg s (8 + i)) 2
theorem form_dg {s : ByteArray} (h : Form s) (i : Nat) (hi : i < 10) (h4 : i ≠ 4) (h7 : i ≠ 7) : 0 ≤ dg s i ∧ dg s i ≤ 9 := by
  have := h.2 i (by rw [h.1]; exact hi)
  unfold Fits at this
  rw [if_neg (by omega)] at this
  rw [dg_at s i (by rw [h.1]; exact hi)]
  omega
theorem number_cut (s : ByteArray) (a n : Nat) (w : World) (h : Form s) (hn : n ≤ 4) (hb : a + n ≤ 10) (hd : ∀ i, i < n → 0 ≤ dg s (a + i) ∧ dg s (a + i) ≤ 9) :
    Calls Try.prog 32 #[.string (s.extract a (a + n))] w fun e w' => e = .returned (.int .i64 (nt (fun i => dg s (a + i)) n)) ∧ w = w' := by
  have e : (s.extract a (a + n)).size = n := by
    have := h.1
    simp; omega
  have g : ∀ i, i < n → dg (s.extract a (a + n)) i = dg s (a + i) := fun i hi => dg_extract s a (a + n) i (by omega) (by rw [h.1]; exact hb)
  refine (number_any (s.extract a (a + n)) w (by rw [e]; exact hn) (fun i hi => by rw [e] at hi; rw [g i hi]; exact hd i hi)).mono fun _ _ k => ?_
  rw [e] at k
  exact ⟨by rw [k.1, nt_congr _ _ n g], k.2⟩

set_option maxRecDepth 100000 in
set_option maxHeartbeats 1000000 in
theorem read_yes (s : ByteArray) (w : World) (h : Form s) :
    Calls Try.prog 20 #[.string s] w fun e w' => e = .returned (.tuple #[.int .i64 (ofP (rdY s) (rdM s) (rdD s)).1, .int .i64 (ofP (rdY s) (rdM s) (rdD s)).2]) ∧ Below w.heap.size w w' := by
  have F := Lib.hid (fun w => isForm_yes s w h)
  have hs := h.1
  have N1 := Lib.hid (fun w => number_cut s 0 4 w h (by omega) (by omega) (fun i hi => by rw [Nat.zero_add]; exact form_dg h i (by omega) (by omega) (by omega)))
  have N2 := Lib.hid (fun w => number_cut s 5 2 w h (by omega) (by omega) (fun i hi => form_dg h (5 + i) (by omega) (by omega) (by omega)))
  have N3 := Lib.hid (fun w => number_cut s 8 2 w h (by omega) (by omega) (fun i hi => form_dg h (8 + i) (by omega) (by omega) (by omega)))
  have N1' : ∀ w, Calls Try.prog 32 #[.string (s.extract 0 4)] w fun e w' => e = .returned (.int .i64 (rdY s)) ∧ w = w' := fun w => (N1.out w).mono fun _ _ k => ⟨by rw [k.1]; exact congrArg (fun x => Ending.returned (.int .i64 x)) (nt_congr _ _ 4 fun i _ => by rw [Nat.zero_add]), k.2⟩
  have N2' : ∀ w, Calls Try.prog 32 #[.string (s.extract 5 7)] w fun e w' => e = .returned (.int .i64 (rdM s)) ∧ w = w' := fun w => N2.out w
  have N3' : ∀ w, Calls Try.prog 32 #[.string (s.extract 8 10)] w fun e w' => e = .returned (.int .i64 (rdD s)) ∧ w = w' := fun w => N3.out w
  clear N1 N2 N3
  have N1 := Lib.hid N1'
  have N2 := Lib.hid N2'
  have N3 := Lib.hid N3'
  have OF := Lib.hid (fun w => of_any (rdY s) (rdM s) (rdD s) w)
  generalize (ofP (rdY s) (rdM s) (rdD s)).1 = p at OF ⊢
  generalize (ofP (rdY s) (rdM s) (rdD s)).2 = q at OF ⊢
  have hsi : (s.size : Int) = 10 := by omega
  clear h N1' N2' N3'
  go_enter Try.func20, Try.ntmps20
  go_wp2_with (go_at_call 31; refine (F.out _).mono ?_; rintro e w' ⟨rfl, rfl⟩)
  refine wp_region_any (by kernel_rfl) ?_
  change wpAny _ _ _ _ _ _ _ (World.drew _)
  refine wpAny_take (i := 0) (v := .string s) rfl (by kernel_rfl) (by kernel_rfl) (by kernel_rfl) (fun _ _ _ h => h) (Or.inl ⟨by rfl, fun _ => by go_simp⟩) ?_
  refine wpAny_take (i := 1) (v := .string (s.extract 0 4)) rfl (by kernel_rfl) (by kernel_rfl) (by kernel_rfl) (fun _ _ _ h => h) (Or.inl ⟨by rfl, fun _ => by go_simp⟩) ?_
  refine wpAny_take (i := 3) (v := .string s) rfl (by kernel_rfl) (by kernel_rfl) (by kernel_rfl) (fun _ _ _ h => h) (Or.inl ⟨by rfl, fun _ => by go_simp⟩) ?_
  refine wpAny_take (i := 4) (v := .string (s.extract 5 7)) rfl (by kernel_rfl) (by kernel_rfl) (by kernel_rfl) (fun _ _ _ h => h) (Or.inl ⟨by rfl, fun _ => by go_simp⟩) ?_
  refine wpAny_take (i := 6) (v := .string s) rfl (by kernel_rfl) (by kernel_rfl) (by kernel_rfl) (fun _ _ _ h => h) (Or.inl ⟨by rfl, fun _ => by go_simp⟩) ?_
  refine wpAny_take (i := 7) (v := .string (s.extract 8 10)) rfl (by kernel_rfl) (by kernel_rfl) (by kernel_rfl) (fun _ _ _ h => h) (Or.inl ⟨by rfl, fun _ => by go_simp⟩) ?_
  refine wpAny_ready (rs := [2]) (by kernel_rfl) (by simp) ?_
  refine AllReady.cons rfl (fun K hK => ?_) AllReady.nil
  go_simp
  refine (N1.out _).mono ?_
  rintro e w1 ⟨rfl, rfl⟩
  refine hK _ _ ?_
  clear hK K
  refine wpAny_ready (rs := [5]) (by kernel_rfl) (by simp) ?_
  refine AllReady.cons rfl (fun K hK => ?_) AllReady.nil
  go_simp
  refine (N2.out _).mono ?_
  rintro e w1 ⟨rfl, rfl⟩
  refine hK _ _ ?_
  clear hK K
  refine wpAny_ready (rs := [8]) (by kernel_rfl) (by simp) ?_
  refine AllReady.cons rfl (fun K hK => ?_) AllReady.nil
  go_simp
  refine (N3.out _).mono ?_
  rintro e w1 ⟨rfl, rfl⟩
  refine hK _ _ ?_
  clear hK K
  refine wpAny_ready (rs := [9]) (by kernel_rfl) (by simp) ?_
  refine AllReady.cons rfl (fun K hK => ?_) AllReady.nil
  go_simp
  refine (OF.out _).mono ?_
  rintro e w1 ⟨rfl, hb1⟩
  refine hK _ _ ?_
  clear hK K
  refine wpAny_take (i := 10) (v := .int .i64 p) rfl (by kernel_rfl) (by kernel_rfl) (by kernel_rfl) (fun _ _ _ h => h) (Or.inl ⟨by rfl, fun _ => by go_simp⟩) ?_
  refine wpAny_take (i := 11) (v := .int .i64 q) rfl (by kernel_rfl) (by kernel_rfl) (by kernel_rfl) (fun _ _ _ h => h) (Or.inl ⟨by rfl, fun _ => by go_simp⟩) ?_
  refine wpAny_take (i := 12) (v := .int .i64 p) rfl (by kernel_rfl) (by kernel_rfl) (by kernel_rfl) (fun _ _ _ h => h) (Or.inl ⟨by rfl, fun _ => by go_simp⟩) ?_
  refine wpAny_take (i := 13) (v := .int .i64 q) rfl (by kernel_rfl) (by kernel_rfl) (by kernel_rfl) (fun _ _ _ h => h) (Or.inl ⟨by rfl, fun _ => by go_simp⟩) ?_
  refine wpAny_done (by kernel_rfl) ?_ _
  go_wp2_with fail
  go_ret2
  exact ⟨rfl, (Below.refl _ _).drew.trans hb1⟩

end Go.Proofs.Ytokjolbjllfaaaa
