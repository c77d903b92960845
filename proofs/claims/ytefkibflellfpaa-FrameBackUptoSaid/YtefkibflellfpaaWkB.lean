/-
  Walks: the sum of one slice, by the program and by the document; copies of bytes; bytes alike.
-/
import Derived.Test.YtefkibflellfpaaWkA
import Derived.Lib.BufferMore
namespace Go.Proofs.Ytefkibflellfpaa
open Go.RowKit

/-- A number, new memory alone. -/
def Num (w : World) (v : Nat) (e : Ending) (w' : World) : Prop := e = .returned (.int .u32 (v : Nat)) ∧ Below w.heap.size w w'

theorem sum_any (A : Option Addr) (L : List Int) (n c : Nat) (w : World) (h : In w A L n c) :
    Calls Try.prog 10 #[.slice A n c] w (Num w (sumL L)) := by
  have hn := h.len
  subst hn
  have HS := Lib.hid (sumOf_any (some ⟨w.heap.size, 0, none⟩) [⟨A, c, L⟩] 1 1 (w.alloc (.cells #[.slice A L.length c] 22)) rfl (by decide) (lit_lies w _ _ rfl _) (AllIn.cons (h.kept (below_new w _)) (AllIn.nil _)))
  have HB := Lib.hid (below_new w (.cells #[.slice A L.length c] 22))
  have HE : Hid (sumL (byts [⟨A, c, L⟩]).flatten = sumL L) := Lib.hid (by simp [byts])
  generalize L.length = n at HS HB
  generalize sumL (byts [⟨A, c, L⟩]).flatten = x at HS HE
  clear h
  go_enter Try.func10, Try.ntmps10
  go_wp2_with (go_at_call 21; refine HS.out.mono ?_; rintro e w1 ⟨rfl, hw⟩; subst hw)
  go_ret
  exact ⟨ret_int (by rw [HE.out]), HB.out⟩

theorem half_ref (x : Nat) (h : x % 2 = 1) (hx : x < 4294967296) : bits .xor .u32 ((x : Int) / 2 % 4294967296) 3988292384 = ((half x : Nat) : Int) := by
  rw [half_odd h, show (x : Int) / 2 % 4294967296 = (x : Int) / 2 by omega]
  exact u32_xor_nat (x / 2) 3988292384 (by omega) (by omega)
theorem half_ref' (x : Nat) (h : x % 2 ≠ 1) (hx : x < 4294967296) : (x : Int) / 2 % 4294967296 = ((half x : Nat) : Int) := by
  rw [half_even h]
  omega

set_option maxRecDepth 100000 in
set_option maxHeartbeats 2000000 in
theorem refSum_any (A : Option Addr) (L : List Int) (n c : Nat) (w : World) (h : In w A L n c) :
    Calls Try.prog 12 #[.slice A n c] w fun e w' => e = .returned (.int .u32 (sumL L : Nat)) ∧ w = w' := by
  have HI := Lib.hid h
  have htop : (n : Int) ≤ 9223372036854775807 := by have := h.cap; have := h.top; omega
  have HN := Lib.hid h.len
  clear h
  go_enter Try.func12, Try.ntmps12
  go_wp2_with fail
  go_loop [3, 10] (fun t3 t10 => ∃ (i x : Nat), i ≤ n ∧ t10 = .int .i64 i ∧ t3 = .int .u32 (x : Nat) ∧ Hid (x = crcF 4294967295 (L.take i))) (fun _ t10 => n - (intOf t10).toNat)
  case atStart => exact ⟨0, 4294967295, by omega, rfl, rfl, Lib.hid rfl⟩
  case round =>
    obtain ⟨i, x, hi, rfl, rfl, hx⟩ := hrel
    by_cases hlt : i < n
    · have hb := List.getElem?_eq_getElem (l := L) (i := i) (by have := HN.out; omega)
      generalize L[i]'(by have := HN.out; omega) = b at hb
      obtain ⟨bd, rfl, c1⟩ := in_at HI.out hb
      obtain ⟨b0, b1⟩ := HI.out.byt b (List.mem_of_getElem? hb)
      have hx32 : x < 4294967296 := by rw [hx.out]; exact crcF_lt _ _ (by decide) (fun z hz => HI.out.byt z (List.mem_of_mem_take hz))
      have hE := Lib.hid (xor_eq x b hx32 b0 b1)
      have hZ := Lib.hid (crcF_take 4294967295 L i b hb)
      have hY := Lib.hid (xor_lt32 hx32 (show b.toNat < 4294967296 by omega))
      rw [← hx.out] at hZ
      generalize x ^^^ b.toNat = y at hE hZ hY
      clear hb hx32 hx
      go_wp2_with fail
      rw [hE.out]
      go_loop [3, 6] (fun t3 t6 => ∃ (j z : Nat), j ≤ 8 ∧ t6 = .int .i64 j ∧ t3 = .int .u32 (z : Nat) ∧ Hid (z = halfN j y)) (fun _ t6 => 8 - (intOf t6).toNat)
      case atStart => exact ⟨0, y, by omega, rfl, rfl, Lib.hid rfl⟩
      case round =>
        obtain ⟨j, z, hj, rfl, rfl, hz⟩ := hrel
        by_cases h8 : j < 8
        · have h8' : ((j : Nat) : Int) < 8 := by omega
          have hz32 : z < 4294967296 := by rw [hz.out]; exact halfN_lt j hY.out
          have hs := Lib.hid (halfN_snoc j y)
          rw [← hz.out] at hs
          by_cases ho : z % 2 = 1
          · have ho' : ((z : Int) % 2 == 1) = true := by simp; omega
            have hr := Lib.hid (half_ref z ho hz32)
            clear ho hz32 hz
            go_wp2_with fail
            go_round
            case rel => exact ⟨j + 1, half z, by omega, by go_num, int_val hr.out, Lib.hid hs.out.symm⟩
            case measure => simp [intOf]; omega
          · have ho' : ((z : Int) % 2 == 1) = false := by simp; omega
            have hr := Lib.hid (half_ref' z ho hz32)
            clear ho hz32 hz
            go_wp2_with fail
            go_round
            case rel => exact ⟨j + 1, half z, by omega, by go_num, int_val hr.out, Lib.hid hs.out.symm⟩
            case measure => simp [intOf]; omega
        · obtain rfl : j = 8 := by omega
          go_wp2_with fail
          go_round
          case rel => exact ⟨i + 1, z, by omega, by go_num, rfl, Lib.hid (by rw [hZ.out, hz.out]; rfl)⟩
          case measure => simp [intOf]; omega
    · obtain rfl : i = n := by omega
      have hE : Hid (bits .xor .u32 (x : Int) 4294967295 = (sumL L : Nat)) := Lib.hid (by
        rw [hx.out, List.take_of_length_le (by have := HN.out; omega)]
        exact u32_xor_nat _ 4294967295 (crcF_lt _ _ (by decide) HI.out.byt) (by omega))
      go_wp2_with fail
      go_ret
      exact ⟨ret_int hE.out, rfl⟩

theorem ret_slice {A : Option Addr} {n m c : Nat} (h : n = m) : Ending.returned (.slice A n c) = .returned (.slice A m c) := by rw [h]
theorem own_any (A : Option Addr) (L : List Int) (n c : Nat) (w : World) (hn : L.length = n) (h : Bys w A L) (hl : L.length ≤ 140737488355328) :
    Calls Try.prog 11 #[.slice A n c] w (Longer w w.heap.size L) := by
  have HB := Lib.hid (h.alloc (.cells #[] 5))
  have HL := Lib.hid hl
  have M0 := Lib.hid (row_made w w.heap.size [] #[] rfl (by simp) (Nat.le_refl _))
  have B0 := Lib.hid (below_new w (.cells #[] 5))
  have HN := Lib.hid hn
  clear h hl hn
  go_enter Try.func11, Try.ntmps11
  go_wp2_with (at_builtin; refine wpList_append_row _ rfl (.tmp 3) (.tmp 4) rfl w.heap.size _ 0 [] L A 0 n c rfl rfl rfl HN.out M0.out HB.out (by simp) (by have := HL.out; simp only [List.length_nil]; omega) ?_; intro A1 c1 w1 r1 b1; have R1 := Lib.hid r1; have B1 := Lib.hid b1; clear r1 b1)
  go_ret
  exact ⟨A1, c1, ret_slice (by have := HN.out; omega), R1.out, B0.out.trans B1.out⟩
theorem clone_any (A : Option Addr) (L : List Int) (n c : Nat) (w : World) (hA : A ≠ none) (hn : L.length = n) (h : Bys w A L) (hl : L.length ≤ 140737488355328) :
    Calls Try.prog 23 #[.slice A n c] w (Longer w w.heap.size L) := by
  obtain ⟨ad, rfl⟩ : ∃ ad, A = some ad := Option.ne_none_iff_exists'.1 hA
  have HB := Lib.hid (h.alloc (.cells #[] 5))
  have HL := Lib.hid hl
  have M0 := Lib.hid (row_made w w.heap.size [] #[] rfl (by simp) (Nat.le_refl _))
  have B0 := Lib.hid (below_new w (.cells #[] 5))
  have HN := Lib.hid hn
  clear h hl hn hA
  have hnil := fun W => Go.Lib.run_eql_slice_some_nil (P := Try.prog) W ad n c Try.underlying22
  go_enter Try.func23, Try.ntmps23
  go_wp2_with (at_builtin; refine wpList_append_row _ rfl (.tmp 5) (.tmp 6) rfl w.heap.size _ 0 [] L _ 0 n c rfl rfl rfl HN.out M0.out HB.out (by simp) (by have := HL.out; simp only [List.length_nil]; omega) ?_; intro A1 c1 w1 r1 b1; have R1 := Lib.hid r1; have B1 := Lib.hid b1; clear r1 b1)
  go_ret
  exact ⟨A1, c1, ret_slice (by have := HN.out; omega), R1.out, B0.out.trans B1.out⟩
theorem same_any (A C : Option Addr) (L : List Int) (n m c d : Nat) (w : World) (hn : L.length = n) (hm : L.length = m) (h : Bys w A L) (g : Bys w C L) :
    Calls Try.prog 17 #[.slice A n c, .slice C m d] w fun e w' => e = .returned (.bool true) ∧ w = w' := by
  have k1 := conv_any h n c hn
  have k2 := conv_any g m d hm
  clear h g hn hm
  go_enter Try.func17, Try.ntmps17
  go_wp2
  go_ret
  exact ⟨by simp, rfl⟩

end Go.Proofs.Ytefkibflellfpaa
