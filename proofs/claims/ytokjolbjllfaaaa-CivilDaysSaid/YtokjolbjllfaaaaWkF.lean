/-
  Walks: digits, one behind the other.
-/
import Derived.Test.YtokjolbjllfaaaaWkE
import Derived.Lib.SlBytesRow
import Derived.Laws.MakeOwn
import Derived.Handy
namespace Go.Proofs.Ytokjolbjllfaaaa
open Go.RowKit

/-- So many digits of a number. -/
def digL : Nat → Nat → List UInt8
  | 0, _ => []
  | n + 1, v => digL n (v / 10) ++ [UInt8.ofNat (48 + v % 10)]
theorem digL_len (n : Nat) : ∀ v, (digL n v).length = n := by
  induction n with
  | zero => intro v; rfl
  | succ n ih => intro v; simp [digL, ih]
theorem digL_get (n : Nat) : ∀ (v k : Nat), k < n → (digL n v).getD (n - 1 - k) 0 = UInt8.ofNat (48 + v / 10 ^ k % 10) := by
  induction n with
  | zero => intro v k h; omega
  | succ n ih =>
    intro v k h
    unfold digL
    cases k with
    | zero =>
      rw [List.getD_eq_getElem?_getD, List.getElem?_append_right (by rw [digL_len]; omega), digL_len]
      simp
    | succ k =>
      have := ih (v / 10) k (by omega)
      rw [List.getD_eq_getElem?_getD, List.getElem?_append_left (by rw [digL_len]; omega), ← List.getD_eq_getElem?_getD, show n + 1 - 1 - (k + 1) = n - 1 - k by omega, this, Nat.div_div_eq_div_mul, Nat.pow_succ, Nat.mul_comm 10]
def digB (n v : Nat) : ByteArray := ⟨(digL n v).toArray⟩
theorem digB_size (n v : Nat) : (digB n v).size = n := by show (digL n v).toArray.size = n; simp [digL_len]
theorem digB_get (n v i : Nat) (h : i < (digB n v).size) : (digB n v)[i] = (digL n v).getD i 0 := by
  have h' : i < (digL n v).length := by rw [digL_len]; rw [digB_size] at h; exact h
  rw [List.getD_eq_getElem?_getD, List.getElem?_eq_getElem h']
  rfl

theorem byte48 (d : Nat) (h : d < 10) : ((UInt8.ofNat (48 + d)).toNat : Int) = 48 + (d : Int) := by
  rw [UInt8.toNat_ofNat']; omega

theorem info5 : (Try.prog.info? 5).map (fun i => (i.zero, i.size, i.bytes)) = some (some (.int .u8 0), 1, 1) := by kernel_rfl

/-- What is written behind k rounds. -/
def digF (n v k : Nat) (j : Nat) : Value := .int .u8 (if n - k ≤ j then (((digL n v).getD j 0).toNat : Int) else 0)

set_option maxRecDepth 100000 in
set_option maxHeartbeats 1000000 in
theorem digits_any (v n : Nat) (w : World) (hn0 : 1 ≤ n) (hn : n ≤ 18) (hv : v ≤ 1000000000) :
    Calls Try.prog 29 #[.int .i64 v, .int .i64 n] w fun e w' => e = .returned (.string (digB n v)) ∧ Below w.heap.size w w' := by
  obtain ⟨i0, hi, hz0, hz1, hz2⟩ := info_parts info5
  have HV := Lib.hid hv
  clear hv
  go_enter Try.func29, Try.ntmps29
  go_wp2_with (at_make; refine wpList_make_row _ rfl _ _ 56 rfl 5 i0 (.int .u8 0) Try.underlying56 hi hz0 hz1 rfl .i64 .i64 n rfl rfl (by rw [hz2]; omega) (by omega) ?_)
  go_loopw [0, 6] (fun t0 t6 wr => ∃ k i : Nat, i + k = n ∧ t0 = .int .i64 ((v / 10 ^ k : Nat) : Int) ∧ t6 = .int .i64 ((i : Int) - 1) ∧ wr.rowIs w.heap.size 5 n (digF n v k) ∧ Below w.heap.size w wr) (fun _ t6 _ => (intOf t6 + 1).toNat)
  case atStart =>
    refine ⟨0, n, rfl, int_eq (by simp), rfl, ?_, (Below.refl _ _).alloc (Nat.le_refl _) _⟩
    exact (World.rowIs_made w (.int .u8 0) n 5).congr fun i hi => by unfold digF; rw [if_neg (by omega)]
  case round =>
    obtain ⟨k, i, hik, rfl, rfl, r1, hbl⟩ := hrel
    match i, hik with
    | 0, hik =>
      obtain rfl : k = n := by omega
      have B : Lib.Bytes wr w.heap.size 0 (digB k v) := fun i h => by
        have h' := h
        rw [digB_size] at h'
        rw [Nat.zero_add, r1.cell h', digB_get]
        unfold digF
        rw [if_pos (by omega)]
      have kc := Lib.run_convert_whole (P := Try.prog) wr 56 5 9 Try.underlying56 Try.underlying5 Try.underlying9 w.heap.size 0 (digB k v) B k
      rw [digB_size] at kc
      clear r1 B
      go_wp2
      go_ret
      exact ⟨rfl, hbl⟩
    | i + 1, hik =>
      have c1 := r1.cell (i := i) (by omega)
      have f1 := r1.frozen i
      have R1 := Lib.hid r1
      clear r1
      rw [show ((i + 1 : Nat) : Int) - 1 = i by omega]
      obtain ⟨u, hu⟩ : ∃ u, v / 10 ^ k = u := ⟨_, rfl⟩
      have hu9 : u ≤ 1000000000 := by rw [← hu]; exact Nat.le_trans (Nat.div_le_self _ _) HV.out
      have HU := Lib.hid hu
      rw [hu]
      clear hu
      have e5 : IntKind.u8.wrap ((u : Int) % 10) = (u : Int) % 10 := by rw [IntKind.wrap_u8]; omega
      have e7 : IntKind.u8.wrap (48 + (u : Int) % 10) = 48 + (u : Int) % 10 := by rw [IntKind.wrap_u8]; omega
      have i0 : (0 : Int) ≤ i := by omega
      have i1 : (i : Int) < n := by omega
      have i2 : (1 : Int) ≤ (i : Int) + 1 := by omega
      go_wp2
      go_roundw
      case rel =>
        refine ⟨k + 1, i, by omega, int_eq ?_, rfl, (R1.out.set i _).congr fun j hj => ?_, hbl.setCell (Nat.le_refl _) _⟩
        · have := HU.out
          rw [Nat.pow_succ, ← Nat.div_div_eq_div_mul, this]; omega
        · have hd := digL_get n v k (by omega)
          rw [show n - 1 - k = i by omega, HU.out] at hd
          by_cases e : j = i
          · subst e
            unfold digF
            rw [if_pos rfl, if_pos (by omega), hd, byte48 _ (by omega)]
            exact int_eq (by omega)
          · rw [if_neg e]
            unfold digF
            by_cases g : n - k ≤ j
            · rw [if_pos g, if_pos (by omega)]
            · rw [if_neg g, if_neg (by omega)]
      case measure => simp [intOf]

theorem digB_two (a : Nat) : digB 2 a = ⟨#[UInt8.ofNat (48 + a / 10 % 10), UInt8.ofNat (48 + a % 10)]⟩ := rfl
theorem digB_four (a : Nat) : digB 4 a = ⟨#[UInt8.ofNat (48 + a / 10 / 10 / 10 % 10), UInt8.ofNat (48 + a / 10 / 10 % 10), UInt8.ofNat (48 + a / 10 % 10), UInt8.ofNat (48 + a % 10)]⟩ := rfl

/-- A date's text. -/
def textB (y m d : Int) : ByteArray :=
  ⟨#[UInt8.ofNat (48 + y.toNat / 10 / 10 / 10 % 10), UInt8.ofNat (48 + y.toNat / 10 / 10 % 10), UInt8.ofNat (48 + y.toNat / 10 % 10), UInt8.ofNat (48 + y.toNat % 10), 45,
     UInt8.ofNat (48 + m.toNat / 10 % 10), UInt8.ofNat (48 + m.toNat % 10), 45, UInt8.ofNat (48 + d.toNat / 10 % 10), UInt8.ofNat (48 + d.toNat % 10)]⟩

theorem text_no (n : Int) (w : World) (h : ¬ (-719162 ≤ n ∧ n ≤ 2932896)) :
    Calls Try.prog 18 #[.int .i64 n] w fun e w' => e = .returned (.tuple #[.string ⟨#[]⟩, .int .i64 6]) ∧ w = w' := by
  have H := Lib.hid (fun w => split_no n w h)
  clear h
  go_enter Try.func18, Try.ntmps18
  go_wp2_with (go_at_call 12; refine (H.out _).mono ?_; rintro e w' ⟨rfl, rfl⟩)
  go_ret2
  exact ⟨rfl, rfl⟩
theorem textR_no (n : Int) (w : World) (h : ¬ (-719162 ≤ n ∧ n ≤ 2932896)) :
    Calls Try.prog 19 #[.int .i64 n] w fun e w' => e = .returned (.tuple #[.string ⟨#[]⟩, .int .i64 6]) ∧ w = w' := by
  have H := Lib.hid (fun w => splitR_no n w h)
  clear h
  go_enter Try.func19, Try.ntmps19
  go_wp2_with (go_at_call 13; refine (H.out _).mono ?_; rintro e w' ⟨rfl, rfl⟩)
  go_ret2
  exact ⟨rfl, rfl⟩

theorem text_join (y m d : Nat) : digB 4 y ++ ⟨#[45]⟩ ++ digB 2 m ++ ⟨#[45]⟩ ++ digB 2 d = textB y m d := by
  rw [digB_four, digB_two, digB_two]
  apply ByteArray.ext
  simp [ByteArray.data_append, textB]

set_option maxRecDepth 100000 in
set_option maxHeartbeats 1000000 in
theorem text_yes (y m d : Int) (w : World) (v : Valid y m d) :
    Calls Try.prog 18 #[.int .i64 (num y m d)] w fun e w' => e = .returned (.tuple #[.string (textB y m d), .int .i64 0]) ∧ Below w.heap.size w w' := by
  have H := Lib.hid (fun w => split_yes y m d w v)
  obtain ⟨v1, v2, v3, v4, v5, v6⟩ := v
  have v7 := mlen_bd y m
  generalize num y m d = n at H ⊢
  obtain ⟨y, rfl⟩ : ∃ a : Nat, y = a := ⟨y.toNat, by omega⟩
  obtain ⟨m, rfl⟩ : ∃ a : Nat, m = a := ⟨m.toNat, by omega⟩
  obtain ⟨d, rfl⟩ : ∃ a : Nat, d = a := ⟨d.toNat, by omega⟩
  have D4 : ∀ w, Calls Try.prog 29 #[.int .i64 y, .int .i64 4] w fun e w' => e = .returned (.string (digB 4 y)) ∧ Below w.heap.size w w' := fun w => digits_any y 4 w (by omega) (by omega) (by omega)
  have D2 : ∀ w, Calls Try.prog 29 #[.int .i64 m, .int .i64 2] w fun e w' => e = .returned (.string (digB 2 m)) ∧ Below w.heap.size w w' := fun w => digits_any m 2 w (by omega) (by omega) (by omega)
  have E2 : ∀ w, Calls Try.prog 29 #[.int .i64 d, .int .i64 2] w fun e w' => e = .returned (.string (digB 2 d)) ∧ Below w.heap.size w w' := fun w => digits_any d 2 w (by omega) (by omega) (by omega)
  have D4 := Lib.hid D4
  have D2 := Lib.hid D2
  have E2 := Lib.hid E2
  clear v6 v7
  have TJ := Lib.hid (text_join y m d)
  go_enter Try.func18, Try.ntmps18
  go_wp2_with (first | (go_at_call 12; refine (H.out _).mono ?_; rintro e w1 ⟨rfl, hb1⟩) | (go_at_call 29; (with_reducible refine (D4.out _).mono ?_); rintro e w2 ⟨rfl, hb2⟩) | (go_at_call 29; (with_reducible refine (D2.out _).mono ?_); rintro e w3 ⟨rfl, hb3⟩) | (go_at_call 29; (with_reducible refine (E2.out _).mono ?_); rintro e w4 ⟨rfl, hb4⟩))
  go_ret2
  exact ⟨congrArg (fun b => Ending.returned (.tuple #[.string b, .int .i64 0])) TJ.out, below_then (below_then (below_then hb1 hb2) hb3) hb4⟩

end Go.Proofs.Ytokjolbjllfaaaa
