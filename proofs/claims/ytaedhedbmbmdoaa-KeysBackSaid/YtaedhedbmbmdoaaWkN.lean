/-
  Walks: a part's form, by the document.
-/
import Derived.Test.YtaedhedbmbmdoaaWkC
namespace Go.Proofs.Ytaedhedbmbmdoaa
open Go.RowKit

theorem boxed {w wr : World} {q : Qt} (h : Below (w.heap.size + 1) (w.alloc (.cells #[.bool q.t, .int .i64 q.num, .string q.s] 41)) wr) :
    wr.cell? ⟨w.heap.size, 0, none⟩ = some (.bool q.t) ∧ wr.cell? ⟨w.heap.size, 1, none⟩ = some (.int .i64 q.num) ∧ wr.cell? ⟨w.heap.size, 2, none⟩ = some (.string q.s) := by
  have e : wr.heap[w.heap.size]? = some (.cells #[.bool q.t, .int .i64 q.num, .string q.s] 41 (0, 0)) := by
    rw [h.block _ (by omega)]
    exact heap_alloc_new w _
  refine ⟨?_, ?_, ?_⟩ <;> simp [World.cell?, e]
theorem turned_add (v : Int) (_h0 : -9223372036854775808 ≤ v) (_h1 : v ≤ 9223372036854775807) : IntKind.u64.wrap (IntKind.u64.wrap v + 9223372036854775808) = turned v := by
  simp only [IntKind.wrap_u64]
  unfold turned
  omega
theorem be8_back (u : Int) (j : Nat) (h : j < 8) : (be8 u).take (7 - j) ++ [u / 2 ^ (8 * j) % 256] = (be8 u).take (8 - j) := by
  have := be8_at u (7 - j) (by omega)
  rw [show 7 - (7 - j) = j by omega, show 7 - j + 1 = 8 - j by omega] at this
  exact this

theorem slice_len {A : Option Addr} {n m c : Nat} (h : n = m) : Value.slice A n c = .slice A m c := by rw [h]

set_option maxHeartbeats 4000000 in
theorem part_num (v : Int) (s : ByteArray) (w : World) (h0 : -9223372036854775808 ≤ v) (h1 : v ≤ 9223372036854775807) :
    Calls Try.prog 26 #[.agg #[.bool false, .int .i64 v, .string s]] w (Longer w w.heap.size (1 :: be8 (turned v))) := by
  have HT := Lib.hid (turned_add v h0 h1)
  obtain ⟨t0, t1⟩ := turned_in v
  have B0 := Lib.hid (below_new w (.cells #[.bool false, .int .i64 v, .string s] 41))
  have R0 := Lib.hid (row_made (w.alloc (.cells #[.bool false, .int .i64 v, .string s] 41)) w.heap.size [1] #[.int .u8 1] rfl (by simp) (by simp))
  generalize turned v = u at HT t0 t1 ⊢
  clear h0 h1
  go_enter Try.func26, Try.ntmps26
  go_upto_region 4 with fail
  rw [HT.out]
  go_wp2_with fail
  go_loopw [3, 5] (fun t3 t5 wr => ∃ (j : Nat) (A2 : Option Addr) (c2 : Nat), j ≤ 8 ∧ t5 = .int .i64 ((j : Int) - 1) ∧ t3 = .slice A2 (1 + (8 - j)) c2 ∧ Hid (Row wr w.heap.size A2 c2 (1 :: (be8 u).take (8 - j))) ∧ Hid (Below w.heap.size w wr)) (fun _ t5 _ => (intOf t5 + 1).toNat)
  case atStart => exact ⟨8, _, _, by omega, rfl, rfl, Lib.hid (by have := R0.out; simpa using this), Lib.hid (B0.out.alloc (by simp) _)⟩
  case round =>
    obtain ⟨j, A2, c2, hj, rfl, rfl, r2, b2⟩ := hrel
    cases j with
    | zero =>
      have r8 := r2.out
      rw [List.take_of_length_le (by rw [be8_len]; omega)] at r8
      have R8 := Lib.hid r8
      clear r8 r2
      go_wp2_with fail
      go_ret
      exact ⟨A2, c2, ret_slice (by simp [be8_len]), R8.out, b2.out⟩
    | succ j =>
      have e : ((j + 1 : Nat) : Int) - 1 = (j : Int) := by omega
      have e7 : 8 - (j + 1) = 7 - j := by omega
      have r3 := r2.out
      rw [e7] at r3
      rw [e, e7]
      clear e7
      have HX := Lib.hid (be8_back u j (by omega))
      have R3 := Lib.hid r3
      have HN2 : Hid ((1 :: (be8 u).take (7 - j)).length = 1 + (7 - j)) := Lib.hid (by simp [be8_len]; omega)
      have HS := Lib.hid b2.out.size
      have HM : Hid ((u / 2 ^ (8 * j)).tmod 256 % 256 = u / 2 ^ (8 * j) % 256) := Lib.hid (by
        have : 0 ≤ u / 2 ^ (8 * j) := Int.ediv_nonneg t0 (Int.le_of_lt (Int.pow_pos (by omega)))
        rw [Int.tmod_eq_emod_of_nonneg this]
        omega)
      clear r2 r3
      go_wp2_with (at_builtin; refine wpList_append_row _ rfl (.tmp 20) (.tmp 28) rfl w.heap.size A2 c2 (1 :: (be8 u).take (7 - j)) [(u / 2 ^ (8 * j)).tmod 256 % 256] _ (1 + (7 - j)) 1 1 rfl rfl HN2.out rfl (R3.out.alloc _) (lit_one _ _) (by have := HS.out; simp; omega) (by rw [HN2.out]; simp only [List.length_singleton]; omega) ?_; intro A3 c3 w3 s1 s2; have S1 := Lib.hid s1; have S2 := Lib.hid ((b2.out.alloc HS.out _).trans s2); clear s1 s2)
      go_roundw
      case rel => exact ⟨j, A3, c3, by omega, rfl, slice_len (by omega), Lib.hid (by have := S1.out; rw [HM.out, List.cons_append, HX.out] at this; exact this), S2⟩
      case measure => simp [intOf]

set_option maxHeartbeats 4000000 in
theorem part_text (v : Int) (s : ByteArray) (w : World) (hs : s.size ≤ 1000000) :
    Calls Try.prog 26 #[.agg #[.bool true, .int .i64 v, .string s]] w (Longer w w.heap.size (2 :: (esc (nums s) ++ [0, 1]))) := by
  have B0 := Lib.hid (below_new w (.cells #[.bool true, .int .i64 v, .string s] 41))
  have R0 := Lib.hid (row_made (w.alloc (.cells #[.bool true, .int .i64 v, .string s] 41)) (w.heap.size + 1) [2] #[.int .u8 2] rfl (by simp) (by simp))
  have K0 := Lib.hid (fun wr (h : Below (w.heap.size + 1) (w.alloc (.cells #[.bool true, .int .i64 v, .string s] 41)) wr) => (boxed (q := ⟨true, v, s⟩) h).2.2)
  go_enter Try.func26, Try.ntmps26
  go_wp2_with fail
  go_loopw [6, 7] (fun t6 t7 wr => ∃ (k m : Nat) (A2 : Option Addr) (c2 : Nat), k ≤ s.size ∧ t7 = .int .i64 k ∧ t6 = .slice A2 m c2 ∧ m ≤ 1 + 2 * k ∧ Hid ((2 :: esc ((nums s).take k)).length = m) ∧ Hid (Row wr (w.heap.size + 1) A2 c2 (2 :: esc ((nums s).take k))) ∧ Hid (Below (w.heap.size + 1) (w.alloc (.cells #[.bool true, .int .i64 v, .string s] 41)) wr)) (fun _ t7 _ => s.size - (intOf t7).toNat)
  case atStart => exact ⟨0, 1, _, _, by omega, rfl, rfl, by omega, Lib.hid (by simp [esc]), Lib.hid (by have := R0.out; simpa [esc] using this), Lib.hid ((Below.refl _ _).alloc (by simp) _)⟩
  case round =>
    obtain ⟨k, m, A2, c2, hk, rfl, rfl, hm, hl2, r2, b2⟩ := hrel
    have a2 := K0.out wr b2.out
    have HS := Lib.hid b2.out.size
    by_cases hlt : k < s.size
    · have HT := Lib.hid (esc_snoc (nums s) k _ (nums_get s k hlt))
      obtain ⟨x, hx⟩ : ∃ x : Int, (s[k].toNat : Int) = x := ⟨_, rfl⟩
      have HX : Hid (0 ≤ x) := Lib.hid (by omega)
      rw [hx] at HT
      by_cases h0 : x = 0
      · have h0' : ((s[k].toNat : Int) == 0) = true := by rw [hx, h0]; rfl
        have e : 2 :: esc ((nums s).take (k + 1)) = 2 :: esc ((nums s).take k) ++ [(s[k].toNat : Int)] ++ [255] := by
          rw [HT.out, hx, h0, esc_zero]
          simp [esc]
        have HE := Lib.hid e
        clear hx h0 e
        go_wp2_with (first
          | (at_builtin; refine wpList_append_row _ rfl (.tmp 39) (.tmp 44) rfl (w.heap.size + 1) A2 c2 _ [(s[k].toNat : Int)] _ m 1 1 rfl rfl hl2.out rfl (r2.out.alloc _) (lit_one _ _) (by have := HS.out; simp at this ⊢; omega) (by have := hl2.out; simp only [List.length_singleton]; omega) ?_; intro A3 c3 w3 r3 b3; have R3 := Lib.hid r3; have B3 := Lib.hid (((b2.out.alloc (by have := HS.out; simp at this; omega) _)).trans b3); have S3 := Lib.hid b3.size; have a3 := K0.out w3 B3.out; clear r3 b3)
          | (at_builtin; refine wpList_append_row _ rfl (.tmp 51) (.tmp 52) rfl (w.heap.size + 1) A3 c3 _ [255] _ (m + 1) 1 1 rfl rfl (by rw [List.length_append, hl2.out]; rfl) rfl (R3.out.alloc _) (lit_one _ _) (by have := HS.out; have := S3.out; simp at *; omega) (by rw [List.length_append, hl2.out]; simp only [List.length_singleton]; omega) ?_; intro A4 c4 w4 r4 b4; have R4 := Lib.hid r4; have B4 := Lib.hid (((B3.out.alloc (by have := B3.out.size; simp at this; omega) _)).trans b4); clear r4 b4))
        go_roundw
        case rel => exact ⟨k + 1, m + 1 + 1, A4, c4, by omega, by go_num, rfl, by omega, Lib.hid (by rw [HE.out, List.length_append, List.length_append, hl2.out]; rfl), Lib.hid (by rw [HE.out]; exact R4.out), B4⟩
        case measure => simp [intOf]; omega
      · have h0' : ((s[k].toNat : Int) == 0) = false := by rw [hx]; simpa using h0
        have e : 2 :: esc ((nums s).take (k + 1)) = 2 :: esc ((nums s).take k) ++ [(s[k].toNat : Int)] := by
          rw [HT.out, hx, esc_other h0]
          simp [esc]
        have HE := Lib.hid e
        clear hx h0 e
        go_wp2_with (at_builtin; refine wpList_append_row _ rfl (.tmp 39) (.tmp 44) rfl (w.heap.size + 1) A2 c2 _ [(s[k].toNat : Int)] _ m 1 1 rfl rfl hl2.out rfl (r2.out.alloc _) (lit_one _ _) (by have := HS.out; simp at this ⊢; omega) (by have := hl2.out; simp only [List.length_singleton]; omega) ?_; intro A3 c3 w3 r3 b3; have R3 := Lib.hid r3; have B3 := Lib.hid (((b2.out.alloc (by have := HS.out; simp at this; omega) _)).trans b3); have a3 := K0.out w3 B3.out; clear r3 b3)
        go_roundw
        case rel => exact ⟨k + 1, m + 1, A3, c3, by omega, by go_num, rfl, by omega, Lib.hid (by rw [HE.out, List.length_append, hl2.out]; rfl), Lib.hid (by rw [HE.out]; exact R3.out), B3⟩
        case measure => simp [intOf]; omega
    · obtain rfl : k = s.size := by omega
      have r8 := r2.out
      have l8 := hl2.out
      rw [List.take_of_length_le (by rw [nums_len]; omega)] at r8 l8
      have R8 := Lib.hid r8
      have L8 := Lib.hid l8
      clear r8 r2 l8 hl2
      go_wp2_with (at_builtin; refine wpList_append_row _ rfl (.tmp 54) (.tmp 55) rfl (w.heap.size + 1) A2 c2 _ [0, 1] _ m 2 2 rfl rfl L8.out rfl (R8.out.alloc _) (lit_two _ _ _) (by have := HS.out; simp at this ⊢; omega) (by have := L8.out; simp only [List.length_cons, List.length_nil] at this ⊢; omega) ?_; intro A3 c3 w3 r3 b3; have R3 := Lib.hid r3; have B3 := Lib.hid (((b2.out.alloc (by have := HS.out; simp at this; omega) _)).trans b3); clear r3 b3)
      go_ret
      have e : 2 :: (esc (nums s) ++ [0, 1]) = 2 :: esc (nums s) ++ [0, 1] := by simp
      refine ⟨A3, c3, ret_slice ?_, ?_, B0.out.trans (B3.out.mono (by omega))⟩
      · rw [e, List.length_append, L8.out]
        rfl
      · rw [e]
        exact R3.out.mono (by omega)

theorem refPart_any (q : Qt) (w : World) (hq : q.Ok) (hs : q.t = true → q.s.size ≤ 1000000) :
    Calls Try.prog 26 #[q.val] w (Longer w w.heap.size (ptL q.pt)) := by
  obtain ⟨t, v, s⟩ := q
  cases t
  · exact part_num v s w hq.lo hq.hi
  · exact part_text v s w (hs rfl)

end Go.Proofs.Ytaedhedbmbmdoaa
