/-
  The law VdiskNil, walked.
-/
import Derived.Test.YtjacjafpeajhaaaPgS
namespace Go.Proofs.Ytjacjafpeajhaaa
open Go.RowKit
open Go.Maps

set_option maxRecDepth 100000 in
set_option maxHeartbeats 8000000 in
theorem lawNil (s : ByteArray) (bA : Option Addr) (b : List Int) (n bc : Nat) (w : World) (hb : Bys w bA b) (hn : b.length = n) (hl : n ≤ 140737488355328) :
    Calls Try.prog 6 #[.string s, .slice bA n bc] w fun e w' => e = .returned (.bool true) ∧ Below w.heap.size w w' := by
  have HBB := Lib.hid hb
  have HN := Lib.hid (And.intro hn hl)
  clear hb hn hl
  go_enter Try.func6, Try.ntmps6
  go_wp2_with (first
    | (go_at_call 24; refine (read_nil s w).mono ?_; rintro e w1 ⟨rfl, hb⟩; have B1 := Lib.hid hb; clear hb)
    | (go_at_call 25; refine (list_nil w1).mono ?_; rintro e wx ⟨rfl, hw⟩; subst hw)
    | (go_at_call 9; refine (wakes_any w1).mono ?_; rintro e w2 ⟨rfl, hb⟩; have B2 : Hid (Below w.heap.size w w2) := Lib.hid (B1.out.trans (hb.mono B1.out.size)); have A2 : Hid (Row (w2.alloc (.cells #[] 5)) w2.heap.size (some ⟨w2.heap.size, 0, none⟩) 0 []) := Lib.hid (row_made _ _ [] #[] rfl (by simp) (Nat.le_refl _)); have D2 : Hid (Below w.heap.size w (w2.alloc (.cells #[] 5))) := Lib.hid (B2.out.alloc B2.out.size _); have E2 : Hid (Bys (w2.alloc (.cells #[] 5)) bA b) := Lib.hid (HBB.out.kept D2.out); clear hb)
    | (at_builtin; refine wpList_append_row_if _ (by with_unfolding_all rfl) (.tmp 25) (.tmp 26) rfl w2.heap.size _ 0 [] b bA 0 n bc rfl rfl rfl HN.out.1 A2.out E2.out (by simp) (by have := HN.out; simp only [List.length_nil]; omega) ?_; intro A3 c3 w3 r3 b3; have B3 : Hid (Below w.heap.size w w3) := Lib.hid (D2.out.trans (b3.mono B2.out.size)); clear r3 b3)
    | (go_at_call 19; refine (append_nil s _ w3).mono ?_; rintro e w4 ⟨rfl, hb⟩; have B4 : Hid (Below w.heap.size w w4) := Lib.hid (B3.out.trans (hb.mono B3.out.size)); clear hb)
    | (go_at_call 21; refine (sync_nil s w4).mono ?_; rintro e w5 ⟨rfl, hb⟩; have B5 : Hid (Below w.heap.size w w5) := Lib.hid (B4.out.trans (hb.mono B4.out.size)); clear hb)
    | (go_at_call 22; refine (rename_nil s _ w5).mono ?_; rintro e w6 ⟨rfl, hb⟩; have B6 : Hid (Below w.heap.size w w6) := Lib.hid (B5.out.trans (hb.mono B5.out.size)); clear hb)
    | (go_at_call 23; refine (delete_nil s w6).mono ?_; rintro e w7 ⟨rfl, hb⟩; have B7 : Hid (Below w.heap.size w w7) := Lib.hid (B6.out.trans (hb.mono B6.out.size)); clear hb)
    | (go_at_call 17; refine (revive_nil 0 0 none 0 0 w7).mono ?_; rintro e w8 ⟨rfl, hb⟩; have B8 : Hid (Below w.heap.size w w8) := Lib.hid (B7.out.trans (hb.mono B7.out.size)); clear hb)
    | (go_at_call 16; refine (dump_nil w8).mono ?_; rintro e wx ⟨rfl, hw⟩; subst hw))
  go_ret
  exact ⟨rfl, B8.out⟩

end Go.Proofs.Ytjacjafpeajhaaa
