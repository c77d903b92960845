/-
  Walks: lists of bytes alike; the laws' own first call.
-/
import Derived.Test.YtefkibflellfpaaWkI
import Derived.Lib.SlBytesConst
namespace Go.Proofs.Ytefkibflellfpaa
open Go.RowKit

/-- Bytes, each slice as it lies. -/
def AllBys (w : World) (T : List Sl) : Prop := ∀ s ∈ T, Bys w s.a s.l
theorem AllIn.bys {w : World} {T : List Sl} (h : AllIn w T) : AllBys w T := fun s hs => (h s hs).bys
theorem rows_bys {w : World} {B : Nat} {T : List Sl} (h : ∀ s ∈ T, Row w B s.a s.c s.l) : AllBys w T := fun s hs => (h s hs).lies

set_option maxRecDepth 100000 in
set_option maxHeartbeats 2000000 in
theorem ssame_any (A C : Option Addr) (T U : List Sl) (n m c d : Nat) (w : World) (hn : T.length = n) (hm : U.length = m) (hc : n ≤ 9223372036854775807) (h : Lies w A (svals T)) (g : Lies w C (svals U)) (hT : AllBys w T) (hU : AllBys w U) (he : byts T = byts U) :
    Calls Try.prog 18 #[.slice A n c, .slice C m d] w fun e w' => e = .returned (.bool true) ∧ ∃ k, w' = w.drewN k := by
  have hnm : n = m := by rw [← hn, ← hm, ← byts_len T, he, byts_len]
  subst hnm
  have HA := Lib.hid h
  have HC := Lib.hid g
  have HT := Lib.hid hT
  have HU := Lib.hid hU
  have HN := Lib.hid hn
  have HM := Lib.hid hm
  have HE := Lib.hid he
  clear h g hT hU hn hm he
  go_enter Try.func18, Try.ntmps18
  go_wp2_with fail
  go_loopw [13] (fun t13 wr => ∃ k m : Nat, k ≤ n ∧ t13 = .int .i64 k ∧ wr = w.drewN m) (fun t13 _ => n - (intOf t13).toNat)
  case atStart => exact ⟨0, 0, by omega, rfl, rfl⟩
  case round =>
    obtain ⟨k, m, hk, rfl, rfl⟩ := hrel
    by_cases hlt : k < n
    · have hs := List.getElem?_eq_getElem (l := T) (i := k) (by have := HN.out; omega)
      generalize T[k]'(by have := HN.out; omega) = s at hs
      have hu := List.getElem?_eq_getElem (l := U) (i := k) (by have := HM.out; omega)
      generalize U[k]'(by have := HM.out; omega) = u at hu
      have e1 := byts_of hs
      rw [HE.out, byts_of hu] at e1
      injection e1 with e1
      obtain ⟨ad, rfl, a0⟩ := lies_at HA.out hs
      obtain ⟨bd, rfl, b0⟩ := lies_at HC.out hu
      have v1 := HT.out s (List.mem_of_getElem? hs)
      have v2 := HU.out u (List.mem_of_getElem? hu)
      obtain ⟨sa, sc, sl⟩ := s
      obtain ⟨ua, uc, ul⟩ := u
      simp only at e1 a0 b0 v1 v2
      subst e1
      obtain ⟨q, hq⟩ : ∃ q, ul.length = q := ⟨_, rfl⟩
      rw [hq] at a0 b0
      have k1 : ∀ j, (convert 22 9 (.slice sa q sc)).run Try.prog (w.drewN j) = .ok (.string (strOfNums ul)) (w.drewN j) := fun j => conv_any (w := w.drewN j) v1 q sc hq
      have k2 : ∀ j, (convert 22 9 (.slice ua q uc)).run Try.prog (w.drewN j) = .ok (.string (strOfNums ul)) (w.drewN j) := fun j => conv_any (w := w.drewN j) v2 q uc hq
      clear hs hu v1 v2 hq
      go_upto_region 6 with fail
      go_quiet (fail)
      go_wp2_with fail
      go_roundw
      case rel => exact ⟨k + 1, m + nq, by omega, by go_num, rfl⟩
      case measure => simp [intOf]; omega
    · clear HA HC HT HU
      go_wp2_with fail
      go_ret
      exact ⟨rfl, m, rfl⟩

theorem read_empty : readP [0, 0, 0, 0, 28, 223, 68, 33] 0 = ([], 8, 0) := by decide +kernel
theorem put_empty : putP [] = ([0, 0, 0, 0, 28, 223, 68, 33], 0) := by rw [putP_ok (by decide), putL_nil]
theorem str8 : strOfNums [0, 0, 0, 0, 28, 223, 68, 33] = ⟨#[0, 0, 0, 0, 28, 223, 68, 33]⟩ := rfl
def Put8 (w : World) (e : Ending) (w' : World) : Prop := ∃ A c, e = .returned (.tuple #[.slice A 8 c, .int .i64 0]) ∧ Hid (Row w' w.heap.size A c [0, 0, 0, 0, 28, 223, 68, 33]) ∧ Hid (Below w.heap.size w w')
theorem put_nil (w : World) : Calls Try.prog 19 #[.slice none 0 0] w (Put8 w) := by
  refine (put_any none [] 0 0 w ⟨rfl, Nat.le_refl _, by decide, .inl rfl, Byt.nil⟩).mono ?_
  rw [put_empty]
  rintro e w' ⟨A, c, rfl, h1, h2⟩
  exact ⟨A, c, rfl, Lib.hid h1, Lib.hid h2⟩
def Got8 (w : World) (e : Ending) (w' : World) : Prop := ∃ A c, e = .returned (.tuple #[.slice A 0 c, .int .i64 8, .int .i64 0]) ∧ Hid (Below w.heap.size w w')
theorem read_nil (w : World) (A : Option Addr) (c : Nat) (h : In w A [0, 0, 0, 0, 28, 223, 68, 33] 8 c) : Calls Try.prog 13 #[.slice A 8 c, .int .i64 0] w (Got8 w) := by
  refine (read_any A _ 8 c 0 w h).mono ?_
  rw [read_empty]
  rintro e w' ⟨A, c, rfl, h1, h2⟩
  exact ⟨A, c, rfl, Lib.hid h2⟩
def nine : List Int := [49, 50, 51, 52, 53, 54, 55, 56, 57]
def nines : Array Value := #[.int .u8 49, .int .u8 50, .int .u8 51, .int .u8 52, .int .u8 53, .int .u8 54, .int .u8 55, .int .u8 56, .int .u8 57]
theorem nine_in (w : World) : In (w.alloc (.cells nines 5 (9, 10))) (some ⟨w.heap.size, 0, none⟩) nine 9 9 := by
  refine ⟨rfl, Nat.le_refl _, by decide, .inr ⟨_, rfl, fun j x hx => ?_⟩, by unfold Byt nine; decide⟩
  rw [add_head]
  have h := heap_alloc_new w (.cells nines 5 (9, 10))
  unfold World.cell?
  simp only
  rw [h]
  show nines[j]? = _
  have hj := (List.getElem?_eq_some_iff.1 hx).1
  simp only [nine, List.length_cons, List.length_nil] at hj
  rcases (by omega : j = 0 ∨ j = 1 ∨ j = 2 ∨ j = 3 ∨ j = 4 ∨ j = 5 ∨ j = 6 ∨ j = 7 ∨ j = 8) with rfl | rfl | rfl | rfl | rfl | rfl | rfl | rfl | rfl <;> (injection hx with hx; subst hx; rfl)
theorem sum_nine (w : World) : Calls Try.prog 10 #[.slice (some ⟨w.heap.size, 0, none⟩) 9 9] (w.alloc (.cells nines 5 (9, 10))) fun e w' => e = .returned (.int .u32 3421780262) ∧ Hid (Below w.heap.size w w') := by
  refine (sum_any _ nine 9 9 _ (nine_in w)).mono ?_
  rintro e w' ⟨rfl, h⟩
  have e9 : sumL nine = 3421780262 := sumL_digits
  rw [e9]
  exact ⟨rfl, Lib.hid (below_then (below_new w _) h)⟩

set_option maxRecDepth 100000 in
set_option maxHeartbeats 2000000 in
theorem wakes_any (w : World) :
    Calls Try.prog 9 #[] w fun e w' => e = .returned (.bool true) ∧ Below w.heap.size w w' := by
  have y8 : Byt [0, 0, 0, 0, 28, 223, 68, 33] := by unfold Byt; decide
  have Y8 := Lib.hid y8
  clear y8
  go_enter Try.func9, Try.ntmps9
  go_upto_region 3 with (first
    | (go_at_call 19; refine (put_nil _).mono ?_; rintro e w1 ⟨A1, c1, rfl, r1, b1⟩)
    | (go_at_call 11; refine (longer_n (own_any A1 _ 8 c1 _ rfl r1.out.lies (by decide)) rfl (m := 8) rfl).mono ?_; rintro e w2 ⟨A2, c2, rfl, r2, b2⟩; have R2 := Lib.hid r2; have R1 := Lib.hid (r1.out.kept b2 (Nat.le_refl _)); have B2 := Lib.hid (below_then b1.out b2); clear r2 b2)
    | (go_at_call 13; refine (read_nil _ _ _ (R2.out.in_n Y8.out rfl)).mono ?_; rintro e w3 ⟨A3, c3, rfl, b3⟩; have R3 := Lib.hid (R1.out.kept b3.out (Nat.le_refl _)); have B3 := Lib.hid (below_then B2.out b3.out)))
  have k3 := conv_any R3.out.lies 8 c1 rfl
  rw [str8] at k3
  have S9 := Lib.hid (sum_nine w3)
  have kc := fun (W : World) (C : Array Value) (n c : Nat) => Lib.run_convert_bytes_const (P := Try.prog) W 22 5 C n c Try.underlying22 Try.underlying5
  go_wp2_with (go_at_call 10; refine S9.out.mono ?_; rintro e w4 ⟨rfl, b4⟩; have B4 := Lib.hid (below_then B3.out b4.out))
  go_ret
  exact ⟨rfl, B4.out⟩

end Go.Proofs.Ytefkibflellfpaa
