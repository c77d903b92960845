/-
  Walks: a number folded and unfolded, bytes copied and compared.
-/
import Derived.Test.YtbgolnaljmeneaaMem
namespace Go.Proofs.Ytbgolnaljmeneaa
open Go.RowKit

theorem ret_int {k : IntKind} {a b : Int} (h : a = b) : Ending.returned (.int k a) = .returned (.int k b) := by rw [h]

theorem fold_eq (v : Int) (h0 : -9223372036854775808 ≤ v) (h1 : v ≤ 9223372036854775807) : bits .xor .u64 (IntKind.u64.wrap (IntKind.u64.wrap v * 2)) (IntKind.u64.wrap (v / 9223372036854775808)) = zig v := by
  simp only [IntKind.wrap_u64]
  by_cases h : 0 ≤ v
  · have e1 : v % 18446744073709551616 * 2 % 18446744073709551616 = 2 * v := by omega
    have e2 : v / 9223372036854775808 % 18446744073709551616 = 0 := by omega
    rw [e1, e2, xor_none _ (by omega) (by omega)]
    unfold zig
    rw [if_pos h]
  · have e1 : v % 18446744073709551616 * 2 % 18446744073709551616 = 2 * v + 18446744073709551616 := by omega
    have e2 : v / 9223372036854775808 % 18446744073709551616 = 18446744073709551615 := by omega
    rw [e1, e2, xor_all _ (by omega) (by omega)]
    unfold zig
    rw [if_neg h]
    omega
theorem unfold_eq (v : Int) (h0 : 0 ≤ v) (h1 : v ≤ 18446744073709551615) : bits .xor .i64 (v / 2) (wrap64 (-wrap64 (bits .and .u64 v 1))) = unz v := by
  rw [and_one v h0 h1]
  by_cases h : v % 2 = 0
  · rw [h]
    have e : wrap64 (-wrap64 0) = 0 := by unfold wrap64; decide
    rw [e, xor_none_i _ (by omega) (by omega)]
    unfold unz
    rw [if_pos h]
  · have h' : v % 2 = 1 := by omega
    rw [h']
    have e : wrap64 (-wrap64 1) = -1 := by unfold wrap64; decide
    rw [e, xor_all_i _ (by omega) (by omega)]
    unfold unz
    rw [if_neg h]

set_option maxHeartbeats 400000 in
theorem folded_any (v : Int) (w : World) (h0 : -9223372036854775808 ≤ v) (h1 : v ≤ 9223372036854775807) :
    Calls Try.prog 26 #[.int .i64 v] w fun e w' => e = .returned (.int .u64 (zig v)) ∧ w = w' := by
  go_enter Try.func26, Try.ntmps26
  go_wp2
  go_ret
  exact ⟨ret_int (fold_eq v h0 h1), rfl⟩

set_option maxHeartbeats 400000 in
theorem unfolded_any (v : Int) (w : World) (h0 : 0 ≤ v) (h1 : v ≤ 18446744073709551615) :
    Calls Try.prog 27 #[.int .u64 v] w fun e w' => e = .returned (.int .i64 (unz v)) ∧ w = w' := by
  go_enter Try.func27, Try.ntmps27
  go_wp2
  go_ret
  exact ⟨ret_int (unfold_eq v h0 h1), rfl⟩

/-- A new slice with bytes L. -/
def New (w : World) (L : List Int) (e : Ending) (w' : World) : Prop :=
  ∃ g c, e = .returned (.slice (some ⟨g, 0, none⟩) L.length c) ∧ Mine w' w.heap.size g c L ∧ Below w.heap.size w w'

theorem own_any (A : Option Addr) (L : List Int) (n c : Nat) (w : World) (hn : L.length = n) (h : Bys w A L) (hl : L.length ≤ 281474976710656) :
    Calls Try.prog 11 #[.slice A n c] w (New w L) := by
  have HB := Lib.hid (h.alloc (.cells #[] 5))
  have HL := Lib.hid hl
  have M0 := Lib.hid (mine_new w [] #[] rfl (by unfold maxLen; simp))
  have B0 := Lib.hid (below_new w (.cells #[] 5))
  have HN := Lib.hid hn
  clear h hl hn
  go_enter Try.func11, Try.ntmps11
  go_wp2_with (at_builtin; refine wpList_append_mine _ rfl (.tmp 3) (.tmp 4) rfl w.heap.size w.heap.size 0 [] L A 0 n c rfl rfl rfl HN.out M0.out HB.out (by simp) (.inr (.inr ⟨rfl, HL.out⟩)) ?_; intro g' c' w' m1 m2 m3; have M1 := Lib.hid (And.intro m1 m2); clear m1 m2 m3)
  go_ret
  exact ⟨g', c', by simp, M1.out.1, B0.out.grown M1.out.2 (by simp) (fun k hk => by injection hk with hk; omega)⟩

theorem copy_any (A : Option Addr) (L : List Int) (n c : Nat) (w : World) (hn : L.length = n) (h : Bys w A L) (hl : L.length ≤ 281474976710656) :
    Calls Try.prog 25 #[.slice A n c] w (New w L) := by
  have HB := Lib.hid (h.alloc (.cells #[] 5))
  have HL := Lib.hid hl
  have M0 := Lib.hid (mine_new w [] #[] rfl (by unfold maxLen; simp))
  have B0 := Lib.hid (below_new w (.cells #[] 5))
  have HN := Lib.hid hn
  clear h hl hn
  go_enter Try.func25, Try.ntmps25
  go_wp2_with (at_builtin; refine wpList_append_mine _ rfl (.tmp 3) (.tmp 4) rfl w.heap.size w.heap.size 0 [] L A 0 n c rfl rfl rfl HN.out M0.out HB.out (by simp) (.inr (.inr ⟨rfl, HL.out⟩)) ?_; intro g' c' w' m1 m2 m3; have M1 := Lib.hid (And.intro m1 m2); clear m1 m2 m3)
  go_ret
  exact ⟨g', c', by simp, M1.out.1, B0.out.grown M1.out.2 (by simp) (fun k hk => by injection hk with hk; omega)⟩

theorem same_any (A C : Option Addr) (L : List Int) (n m c d : Nat) (w : World) (hn : L.length = n) (hm : L.length = m) (h : Bys w A L) (g : Bys w C L) :
    Calls Try.prog 9 #[.slice A n c, .slice C m d] w fun e w' => e = .returned (.bool true) ∧ w = w' := by
  have k1 := conv_any h n c hn
  have k2 := conv_any g m d hm
  clear h g hn hm
  go_enter Try.func9, Try.ntmps9
  go_wp2
  go_ret
  exact ⟨by simp, rfl⟩

end Go.Proofs.Ytbgolnaljmeneaa
