/-
  Walks: a number, a text, a part appended by the program.
-/
import Derived.Test.YtaedhedbmbmdoaaWkA
import Derived.Test.YtaedhedbmbmdoaaMemR
import Derived.Test.YtaedhedbmbmdoaaBits
import Derived.Deep.CutRange
import Derived.Deep.Cut
import Derived.Deep.CutBlock
namespace Go.Proofs.Ytaedhedbmbmdoaa
open Go.RowKit

theorem ret_slice {A : Option Addr} {n m c : Nat} (h : n = m) : Ending.returned (.slice A n c) = .returned (.slice A m c) := by rw [h]
/-- A number, turned. -/
def turned (v : Int) : Int := (v + 9223372036854775808) % 18446744073709551616
theorem turned_in (v : Int) : 0 ≤ turned v ∧ turned v < 18446744073709551616 := by unfold turned; omega
theorem turned_eq (v : Int) (_h0 : -9223372036854775808 ≤ v) (_h1 : v ≤ 9223372036854775807) : bits .xor .u64 (IntKind.u64.wrap v) 9223372036854775808 = turned v := by
  rw [IntKind.wrap_u64, turn_bit _ (by omega) (by omega)]
  unfold turned
  omega

theorem be8_at (u : Int) (k : Nat) (h : k < 8) : (be8 u).take k ++ [u / 2 ^ (8 * (7 - k)) % 256] = (be8 u).take (k + 1) := by
  unfold be8
  rcases (by omega : k = 0 ∨ k = 1 ∨ k = 2 ∨ k = 3 ∨ k = 4 ∨ k = 5 ∨ k = 6 ∨ k = 7) with rfl | rfl | rfl | rfl | rfl | rfl | rfl | rfl <;> simp
theorem lit_one (w : World) (x : Int) : Bys (w.alloc (.cells #[.int .u8 x] 5)) (some ⟨w.heap.size, 0, none⟩) [x] :=
  (row_made w w.heap.size [x] #[.int .u8 x] rfl (by simp) (Nat.le_refl _)).lies
theorem lit_two (w : World) (x y : Int) : Bys (w.alloc (.cells #[.int .u8 x, .int .u8 y] 5)) (some ⟨w.heap.size, 0, none⟩) [x, y] :=
  (row_made w w.heap.size [x, y] #[.int .u8 x, .int .u8 y] rfl (by simp) (Nat.le_refl _)).lies
theorem esc_append (s t : List Int) : esc (s ++ t) = esc s ++ esc t := by
  induction s with
  | nil => rfl
  | cons x s ih =>
    by_cases e : x = 0
    · subst e; rw [List.cons_append, esc_zero, esc_zero, ih]; rfl
    · rw [List.cons_append, esc_other e, esc_other e, ih]; rfl
theorem esc_snoc (L : List Int) (k : Nat) (x : Int) (h : L[k]? = some x) : esc (L.take (k + 1)) = esc (L.take k) ++ esc [x] := by
  rw [← esc_append, List.take_add_one, h]
  rfl

set_option maxHeartbeats 2000000 in
theorem appendNumber_any (A : Option Addr) (c : Nat) (L : List Int) (n : Nat) (v : Int) (w : World) (B : Nat) (hn : L.length = n) (h : Row w B A c L) (hB : B ≤ w.heap.size) (hl : n ≤ 1000000) (h0 : -9223372036854775808 ≤ v) (h1 : v ≤ 9223372036854775807) :
    Calls Try.prog 35 #[.slice A n c, .int .i64 v] w (Longer w B (L ++ 1 :: be8 (turned v))) := by
  have HR := Lib.hid (h.alloc (.cells #[.int .u8 1] 5))
  have HM := Lib.hid ((row_made w w.heap.size [1] #[.int .u8 1] rfl (by decide) (Nat.le_refl _)).lies)
  have HT := Lib.hid (turned_eq v h0 h1)
  have HB := Lib.hid hB
  have HN := Lib.hid hn
  obtain ⟨t0, t1⟩ := turned_in v
  generalize turned v = u at HT t0 t1 ⊢
  clear h hB hn h0 h1
  go_enter Try.func35, Try.ntmps35
  go_upto_region 2 with (at_builtin; refine wpList_append_row _ rfl (.tmp 7) (.tmp 8) rfl B A c L [1] _ n 1 1 rfl rfl HN.out rfl HR.out HM.out (by have := HB.out; simp; omega) (by have := HN.out; simp; omega) ?_; intro A1 c1 w1 r1 b1; have R1 := Lib.hid r1; have B1 := Lib.hid b1; clear r1 b1)
  go_upto_region 3 with fail
  rw [HT.out]
  have HL : Hid (Below B w w1) := Lib.hid (((Below.refl B w).alloc HB.out _).trans B1.out)
  have hs1 : B ≤ w1.heap.size := by have := HB.out; have := HL.out.size; omega
  go_wp2_with fail
  go_loopw [0, 13] (fun t0 t13 wr => ∃ (k : Nat) (A2 : Option Addr) (c2 : Nat), k ≤ 8 ∧ t13 = .int .i64 k ∧ t0 = .slice A2 (n + 1 + k) c2 ∧ Hid (Row wr B A2 c2 (L ++ 1 :: (be8 u).take k)) ∧ Hid (Below B w wr)) (fun _ t13 _ => 8 - (intOf t13).toNat)
  case atStart => exact ⟨0, A1, c1, by omega, rfl, rfl, Lib.hid (by simpa using R1.out), HL⟩
  case round =>
    obtain ⟨k, A2, c2, hk, rfl, rfl, r2, b2⟩ := hrel
    by_cases hlt : k < 8
    · have HX := Lib.hid (be8_at u k hlt)
      have HN2 : Hid ((L ++ 1 :: (be8 u).take k).length = n + 1 + k) := Lib.hid (by have := HN.out; simp [be8_len]; omega)
      have hb2 := b2.out.size
      have HS : Hid (B ≤ wr.heap.size) := Lib.hid (by have := HB.out; omega)
      clear hb2
      go_wp2_with (at_builtin; refine wpList_append_row _ rfl (.tmp 16) (.tmp 23) rfl B A2 c2 (L ++ 1 :: (be8 u).take k) [u / 2 ^ (8 * (7 - k)) % 256] _ (n + 1 + k) 1 1 rfl rfl HN2.out rfl (r2.out.alloc _) (lit_one _ _) (by have := HS.out; simp; omega) (by have := HN2.out; simp only [List.length_singleton]; omega) ?_; intro A3 c3 w3 r3 b3; have R3 := Lib.hid r3; have B3 := Lib.hid (((b2.out.alloc HS.out _)).trans b3); clear r3 b3)
      go_roundw
      case rel => exact ⟨k + 1, A3, c3, by omega, by go_num, rfl, Lib.hid (by have := R3.out; rwa [List.append_assoc, List.cons_append, HX.out] at this), B3⟩
      case measure => simp [intOf]; omega
    · obtain rfl : k = 8 := by omega
      have r8 := r2.out
      rw [List.take_of_length_le (by rw [be8_len]; omega)] at r8
      have R8 := Lib.hid r8
      clear r8 r2
      go_wp2_with fail
      go_ret
      exact ⟨A2, c2, ret_slice (by rw [List.length_append, List.length_cons, be8_len, HN.out]), R8.out, b2.out⟩

set_option maxHeartbeats 2000000 in
theorem appendText_any (A : Option Addr) (c : Nat) (L : List Int) (n : Nat) (s : ByteArray) (w : World) (B : Nat) (hn : L.length = n) (h : Row w B A c L) (hB : B ≤ w.heap.size) (hl : n ≤ 1000000) (hs : s.size ≤ 1000000) :
    Calls Try.prog 34 #[.slice A n c, .string s] w (Longer w B (L ++ 2 :: (esc (nums s) ++ [0, 1]))) := by
  have HR := Lib.hid (h.alloc (.cells #[.int .u8 2] 5))
  have HM := Lib.hid ((row_made w w.heap.size [2] #[.int .u8 2] rfl (by decide) (Nat.le_refl _)).lies)
  have HB := Lib.hid hB
  have HN := Lib.hid hn
  clear h hB hn
  go_enter Try.func34, Try.ntmps34
  go_upto_region 2 with (at_builtin; refine wpList_append_row _ rfl (.tmp 6) (.tmp 7) rfl B A c L [2] _ n 1 1 rfl rfl HN.out rfl HR.out HM.out (by have := HB.out; simp; omega) (by have := HN.out; simp; omega) ?_; intro A1 c1 w1 r1 b1; have R1 := Lib.hid r1; have B1 := Lib.hid b1; clear r1 b1)
  have HL : Hid (Below B w w1) := Lib.hid (((Below.refl B w).alloc HB.out _).trans B1.out)
  go_wp2_with fail
  go_loopw [0, 11] (fun t0 t11 wr => ∃ (k m : Nat) (A2 : Option Addr) (c2 : Nat), k ≤ s.size ∧ t11 = .int .i64 k ∧ t0 = .slice A2 m c2 ∧ m ≤ n + 1 + 2 * k ∧ Hid ((L ++ 2 :: esc ((nums s).take k)).length = m) ∧ Hid (Row wr B A2 c2 (L ++ 2 :: esc ((nums s).take k))) ∧ Hid (Below B w wr)) (fun _ t11 _ => s.size - (intOf t11).toNat)
  case atStart => exact ⟨0, n + 1, A1, c1, by omega, rfl, rfl, by omega, Lib.hid (by have := HN.out; simp [esc]; omega), Lib.hid (by simpa [esc] using R1.out), HL⟩
  case round =>
    obtain ⟨k, m, A2, c2, hk, rfl, rfl, hm, hl2, r2, b2⟩ := hrel
    by_cases hlt : k < s.size
    · have hb2 := b2.out.size
      have HS : Hid (B ≤ wr.heap.size) := Lib.hid (by have := HB.out; omega)
      have HT := Lib.hid (esc_snoc (nums s) k _ (nums_get s k hlt))
      clear hb2
      have hx0 : (0 : Int) ≤ (s[k].toNat : Int) := by omega
      obtain ⟨x, hx⟩ : ∃ x : Int, (s[k].toNat : Int) = x := ⟨_, rfl⟩
      rw [hx] at HT
      by_cases h0 : x = 0
      · have h0' : ((s[k].toNat : Int) == 0) = true := by rw [hx, h0]; rfl
        have HX := Lib.hid hx
        have H0 := Lib.hid h0
        clear hx h0
        go_wp2_with (first
          | (at_builtin; refine wpList_append_row _ rfl (.tmp 14) (.tmp 18) rfl B A2 c2 _ [(s[k].toNat : Int)] _ m 1 1 rfl rfl hl2.out rfl (r2.out.alloc _) (lit_one _ _) (by have := HS.out; simp; omega) (by have := hl2.out; simp only [List.length_singleton]; omega) ?_; intro A3 c3 w3 r3 b3; have R3 := Lib.hid r3; have B3 := Lib.hid (((b2.out.alloc HS.out _)).trans b3); have S3 := Lib.hid b3.size; clear r3 b3)
          | (at_builtin; refine wpList_append_row _ rfl (.tmp 24) (.tmp 25) rfl B A3 c3 _ [255] _ (m + 1) 1 1 rfl rfl (by rw [List.length_append, hl2.out]; rfl) rfl (R3.out.alloc _) (lit_one _ _) (by have := HS.out; have := S3.out; simp at this ⊢; omega) (by rw [List.length_append, hl2.out]; simp only [List.length_singleton]; omega) ?_; intro A4 c4 w4 r4 b4; have R4 := Lib.hid r4; have B4 := Lib.hid (((B3.out.alloc (by have := HS.out; have := S3.out; simp at this; omega) _)).trans b4); clear r4 b4))
        go_roundw
        case rel =>
          have e : L ++ 2 :: esc ((nums s).take (k + 1)) = L ++ 2 :: esc ((nums s).take k) ++ [(s[k].toNat : Int)] ++ [255] := by
            rw [HT.out, HX.out, H0.out, esc_zero]
            simp [esc]
          exact ⟨k + 1, m + 1 + 1, A4, c4, by omega, by go_num, rfl, by omega, Lib.hid (by rw [e, List.length_append, List.length_append, hl2.out]; rfl), Lib.hid (by rw [e]; exact R4.out), B4⟩
        case measure => simp [intOf]; omega
      · have h0' : ((s[k].toNat : Int) == 0) = false := by rw [hx]; simpa using h0
        have HX := Lib.hid hx
        have H0 := Lib.hid h0
        clear hx h0
        go_wp2_with (at_builtin; refine wpList_append_row _ rfl (.tmp 14) (.tmp 18) rfl B A2 c2 _ [(s[k].toNat : Int)] _ m 1 1 rfl rfl hl2.out rfl (r2.out.alloc _) (lit_one _ _) (by have := HS.out; simp; omega) (by have := hl2.out; simp only [List.length_singleton]; omega) ?_; intro A3 c3 w3 r3 b3; have R3 := Lib.hid r3; have B3 := Lib.hid (((b2.out.alloc HS.out _)).trans b3); clear r3 b3)
        go_roundw
        case rel =>
          have e : L ++ 2 :: esc ((nums s).take (k + 1)) = L ++ 2 :: esc ((nums s).take k) ++ [(s[k].toNat : Int)] := by
            rw [HT.out, HX.out, esc_other H0.out]
            simp [esc]
          exact ⟨k + 1, m + 1, A3, c3, by omega, by go_num, rfl, by omega, Lib.hid (by rw [e, List.length_append, hl2.out]; rfl), Lib.hid (by rw [e]; exact R3.out), B3⟩
        case measure => simp [intOf]; omega
    · obtain rfl : k = s.size := by omega
      have hb2 := b2.out.size
      have HS : Hid (B ≤ wr.heap.size) := Lib.hid (by have := HB.out; omega)
      have r8 := r2.out
      have l8 := hl2.out
      rw [List.take_of_length_le (by rw [nums_len]; omega)] at r8 l8
      have R8 := Lib.hid r8
      have L8 := Lib.hid l8
      clear r8 r2 l8 hl2 hb2
      go_wp2_with (at_builtin; refine wpList_append_row _ rfl (.tmp 28) (.tmp 29) rfl B A2 c2 _ [0, 1] _ m 2 2 rfl rfl L8.out rfl (R8.out.alloc _) (lit_two _ _ _) (by have := HS.out; simp; omega) (by have := L8.out; simp only [List.length_cons, List.length_nil] at this ⊢; omega) ?_; intro A3 c3 w3 r3 b3; have R3 := Lib.hid r3; have B3 := Lib.hid (((b2.out.alloc HS.out _)).trans b3); clear r3 b3)
      go_ret
      have e : L ++ 2 :: (esc (nums s) ++ [0, 1]) = L ++ 2 :: esc (nums s) ++ [0, 1] := by simp
      refine ⟨A3, c3, ret_slice ?_, ?_, B3.out⟩
      · rw [e, List.length_append, L8.out]
        rfl
      · rw [e]
        exact R3.out

/-- A part's form. -/
def Qt.pt (q : Qt) : Pt := ⟨q.t, q.num, nums q.s⟩
theorem appendPart_any (A : Option Addr) (c : Nat) (L : List Int) (n : Nat) (q : Qt) (w : World) (B : Nat) (hn : L.length = n) (h : Row w B A c L) (hB : B ≤ w.heap.size) (hl : n ≤ 1000000) (hq : q.Ok) (hs : q.t = true → q.s.size ≤ 1000000) :
    Calls Try.prog 24 #[.slice A n c, q.val] w (Longer w B (L ++ ptL q.pt)) := by
  obtain ⟨t, v, s⟩ := q
  have HR := Lib.hid (h.alloc (.cells #[.bool t, .int .i64 v, .string s] 41))
  have HB := Lib.hid (Nat.le_trans hB (below_new w (.cells #[.bool t, .int .i64 v, .string s] 41)).size)
  have HL := Lib.hid ((Below.refl B w).alloc hB (.cells #[.bool t, .int .i64 v, .string s] 41))
  have HN := Lib.hid hn
  have HV := Lib.hid (And.intro hq.lo hq.hi)
  have HS := Lib.hid hs
  simp only at HV HS
  unfold Qt.val
  clear h hB hn hq hs
  cases t
  · show Calls _ _ _ _ (Longer w B (L ++ 1 :: be8 (turned v)))
    go_enter Try.func24, Try.ntmps24
    go_wp2_with (go_at_call 35; refine (appendNumber_any A c L n v _ B HN.out HR.out HB.out hl HV.out.1 HV.out.2).mono ?_; rintro e w1 ⟨A1, c1, rfl, r1, b1⟩; have R1 := Lib.hid r1; have B1 := Lib.hid b1; clear r1 b1)
    go_ret
    exact ⟨A1, c1, ret_slice (by simp), R1.out, HL.out.trans B1.out⟩
  · show Calls _ _ _ _ (Longer w B (L ++ 2 :: (esc (nums s) ++ [0, 1])))
    go_enter Try.func24, Try.ntmps24
    go_wp2_with (go_at_call 34; refine (appendText_any A c L n s _ B HN.out HR.out HB.out hl (HS.out rfl)).mono ?_; rintro e w1 ⟨A1, c1, rfl, r1, b1⟩; have R1 := Lib.hid r1; have B1 := Lib.hid b1; clear r1 b1)
    go_ret
    exact ⟨A1, c1, ret_slice (by simp), R1.out, HL.out.trans B1.out⟩

end Go.Proofs.Ytaedhedbmbmdoaa
