/-
  Walks: copies of bytes, of parts; bytes alike, parts alike.
-/
import Derived.Test.YtaedhedbmbmdoaaWkC
import Derived.Deep.QuietTactic
import Derived.BigQuiet
import Derived.Lib.BufferMore
namespace Go.Proofs.Ytaedhedbmbmdoaa
open Go.RowKit

/-- A slice of parts that has grown. -/
def PLonger (w : World) (B : Nat) (l : List Qt) (e : Ending) (w' : World) : Prop := ∃ A c, e = .returned (.slice A l.length c) ∧ Prow w' B A c l ∧ Below B w w'

theorem own_any (A : Option Addr) (L : List Int) (n c : Nat) (w : World) (hn : L.length = n) (h : Bys w A L) (hl : L.length ≤ 140737488351232) :
    Calls Try.prog 14 #[.slice A n c] w (Longer w w.heap.size L) := by
  have HB := Lib.hid (h.alloc (.cells #[] 5))
  have HL := Lib.hid hl
  have M0 := Lib.hid (row_made w w.heap.size [] #[] rfl (by simp) (Nat.le_refl _))
  have B0 := Lib.hid (below_new w (.cells #[] 5))
  have HN := Lib.hid hn
  clear h hl hn
  go_enter Try.func14, Try.ntmps14
  go_wp2_with (at_builtin; refine wpList_append_row _ rfl (.tmp 3) (.tmp 4) rfl w.heap.size _ 0 [] L A 0 n c rfl rfl rfl HN.out M0.out HB.out (by simp) (by have := HL.out; simp only [List.length_nil]; omega) ?_; intro A1 c1 w1 r1 b1; have R1 := Lib.hid r1; have B1 := Lib.hid b1; clear r1 b1)
  go_ret
  exact ⟨A1, c1, ret_slice (by have := HN.out; omega), R1.out, B0.out.trans B1.out⟩

theorem clone_any (A : Option Addr) (L : List Int) (n c : Nat) (w : World) (hn : L.length = n) (h : Bys w A L) (hl : L.length ≤ 140737488351232) (h0 : 0 < n) :
    Calls Try.prog 31 #[.slice A n c] w (Longer w w.heap.size L) := by
  have hA : ∃ ad, A = some ad := by
    rcases h with rfl | ⟨ad, rfl, _⟩
    · simp at hn; omega
    · exact ⟨ad, rfl⟩
  obtain ⟨ad, rfl⟩ := hA
  have HB := Lib.hid (h.alloc (.cells #[] 5))
  have HL := Lib.hid hl
  have M0 := Lib.hid (row_made w w.heap.size [] #[] rfl (by simp) (Nat.le_refl _))
  have B0 := Lib.hid (below_new w (.cells #[] 5))
  have HN := Lib.hid hn
  clear h hl hn
  have hnil := fun W => Go.Lib.run_eql_slice_some_nil (P := Try.prog) W ad n c Try.underlying24
  go_enter Try.func31, Try.ntmps31
  go_wp2_with (at_builtin; refine wpList_append_row _ rfl (.tmp 5) (.tmp 6) rfl w.heap.size _ 0 [] L _ 0 n c rfl rfl rfl HN.out M0.out HB.out (by simp) (by have := HL.out; simp only [List.length_nil]; omega) ?_; intro A1 c1 w1 r1 b1; have R1 := Lib.hid r1; have B1 := Lib.hid b1; clear r1 b1)
  go_ret
  exact ⟨A1, c1, ret_slice (by have := HN.out; omega), R1.out, B0.out.trans B1.out⟩

theorem parts_any (A : Option Addr) (l : List Qt) (n c : Nat) (w : World) (hn : l.length = n) (h : Pts w A l) (hl : l.length * 32 ≤ 140737488351232) :
    Calls Try.prog 10 #[.slice A n c] w (PLonger w w.heap.size l) := by
  have HB := Lib.hid (h.alloc (.cells #[] 41))
  have HL := Lib.hid hl
  have M0 := Lib.hid (prow_made w w.heap.size [] #[] rfl (by simp) (Nat.le_refl _))
  have B0 := Lib.hid (below_new w (.cells #[] 41))
  have HN := Lib.hid hn
  clear h hl hn
  go_enter Try.func10, Try.ntmps10
  go_wp2_with (at_builtin; refine wpList_append_prow _ rfl (.tmp 3) (.tmp 4) rfl w.heap.size _ 0 [] l A 0 n c rfl rfl rfl HN.out M0.out HB.out (by simp) (by have := HL.out; simp only [List.length_nil]; omega) ?_; intro A1 c1 w1 r1 b1; have R1 := Lib.hid r1; have B1 := Lib.hid b1; clear r1 b1)
  go_ret
  exact ⟨A1, c1, ret_slice (by have := HN.out; omega), R1.out, B0.out.trans B1.out⟩

theorem same_any (A C : Option Addr) (L : List Int) (n m c d : Nat) (w : World) (hn : L.length = n) (hm : L.length = m) (h : Bys w A L) (g : Bys w C L) :
    Calls Try.prog 12 #[.slice A n c, .slice C m d] w fun e w' => e = .returned (.bool true) ∧ w = w' := by
  have k1 := conv_any h n c hn
  have k2 := conv_any g m d hm
  clear h g hn hm
  go_enter Try.func12, Try.ntmps12
  go_wp2
  go_ret
  exact ⟨by simp, rfl⟩

set_option maxHeartbeats 1000000 in
theorem psame_any (A C : Option Addr) (l : List Qt) (n c d : Nat) (w : World) (hn : l.length = n) (hc : n ≤ 140737488351232) (h : Pts w A l) (g : Pts w C l) :
    Calls Try.prog 15 #[.slice A n c, .slice C n d] w fun e w' => e = .returned (.bool true) ∧ ∃ k, w' = w.drewN k := by
  have HA := Lib.hid h
  have HC := Lib.hid g
  have HN := Lib.hid hn
  clear h g hn
  go_enter Try.func15, Try.ntmps15
  go_wp2_with fail
  go_loopw [13] (fun t13 wr => ∃ k m : Nat, k ≤ n ∧ t13 = .int .i64 k ∧ wr = w.drewN m) (fun t13 _ => n - (intOf t13).toNat)
  case atStart => exact ⟨0, 0, by omega, rfl, rfl⟩
  case round =>
    obtain ⟨k, m, hk, rfl, rfl⟩ := hrel
    by_cases hlt : k < n
    · have hq := List.getElem?_eq_getElem (l := l) (i := k) (by have := HN.out; omega)
      generalize l[k]'(by have := HN.out; omega) = q at hq
      obtain ⟨ad, rfl, a0, a1, a2⟩ := HA.out.at_ hq
      obtain ⟨bd, rfl, b0, b1, b2⟩ := HC.out.at_ hq
      clear hq
      go_upto_region 6 with fail
      go_quiet (fail)
      go_wp2_with fail
      go_roundw
      case rel => exact ⟨k + 1, m + nq, by omega, by go_num, rfl⟩
      case measure => simp [intOf]; omega
    · clear HA HC
      go_wp2_with fail
      go_ret
      exact ⟨rfl, m, rfl⟩

end Go.Proofs.Ytaedhedbmbmdoaa
