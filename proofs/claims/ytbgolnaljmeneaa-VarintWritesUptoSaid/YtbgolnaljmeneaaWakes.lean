/-
  The law's own first call.
-/
import Derived.Test.YtbgolnaljmeneaaWkI
import Derived.Deep.CutRange
namespace Go.Proofs.Ytbgolnaljmeneaa
open Go.RowKit

theorem In.kept {w w' : World} {A : Option Addr} {L : List Int} {n c : Nat} (h : In w A L n c) (hb : Below w.heap.size w w') : In w' A L n c := ⟨h.len, h.cap, h.top, h.bys.kept hb, h.byt⟩
theorem Mine.in_ {w : World} {B g c : Nat} {L : List Int} (h : Mine w B g c L) (hB : Byt L) : In w (some ⟨g, 0, none⟩) L L.length c := ⟨rfl, h.cap.1, by have := h.cap; omega, h.bys, hB⟩
theorem lit_in (w : World) (L : List Int) (cs : Array Value) (e : cs = (vals L).toArray) (n : Nat) (hn : L.length = n) (hl : n ≤ 9) (hB : Byt L) : In (w.alloc (.cells cs 5)) (some ⟨w.heap.size, 0, none⟩) L n n := by
  subst hn
  exact (mine_new w L cs e (by unfold maxLen; omega)).in_ hB
theorem Mine.in_n {w : World} {B g c n : Nat} {L : List Int} (h : Mine w B g c L) (hB : Byt L) (hn : L.length = n) : In w (some ⟨g, 0, none⟩) L n c := by
  subst hn
  exact h.in_ hB
theorem bys_nil (w : World) (A : Option Addr) : Bys w A [] := .inl rfl

theorem uint_300 (w : World) (A : Option Addr) (c : Nat) (h : In w A [9, 172, 2] 3 c) :
    Calls Try.prog 17 #[.slice A 3 c, .int .i64 1] w fun e w' => e = .returned (.tuple #[.int .u64 300, .int .i64 3, .int .i64 0]) ∧ w = w' := by
  have := uint_any A [9, 172, 2] 3 c 1 w h
  rwa [show uintP [9, 172, 2] 1 = (300, 3, 0) by decide] at this
theorem uint_bad (w : World) (A : Option Addr) (c : Nat) (h : In w A [128, 0] 2 c) :
    Calls Try.prog 17 #[.slice A 2 c, .int .i64 0] w fun e w' => e = .returned (.tuple #[.int .u64 0, .int .i64 0, .int .i64 11]) ∧ w = w' := by
  have := uint_any A [128, 0] 2 c 0 w h
  rwa [show uintP [128, 0] 0 = (0, 0, 11) by decide] at this
def GotAB (w : World) (e : Ending) (w' : World) : Prop := ∃ A c, e = .returned (.tuple #[.slice A 2 c, .int .i64 3, .int .i64 0]) ∧ Bys w' A [65, 66] ∧ Below w.heap.size w w'
theorem bytes_ab (w : World) (A : Option Addr) (c : Nat) (h : In w A [2, 65, 66] 3 c) :
    Calls Try.prog 19 #[.slice A 3 c, .int .i64 0, .int .i64 9] w (GotAB w) := by
  refine (bytes_any A [2, 65, 66] 3 c 0 9 w h (by decide) (by decide)).mono ?_
  rw [show bytesP [2, 65, 66] 0 9 = ([65, 66], 3, 0) by decide]
  rintro e w' ⟨A', c', rfl, h1, h2⟩
  refine ⟨A', c', rfl, ?_, h2⟩
  rcases h1 with ⟨-, h1⟩ | ⟨g, rfl, h1⟩
  · cases h1
  · exact h1.bys
def NewOne (w : World) (e : Ending) (w' : World) : Prop := ∃ A c, e = .returned (.slice A 1 c) ∧ Below w.heap.size w w'
theorem append_minus (w : World) : Calls Try.prog 13 #[.slice none 0 0, .int .i64 (-1)] w (NewOne w) := by
  refine (appendInt_any none [] 0 0 (-1) w rfl (.inl rfl) (by decide) (by decide) (by decide)).mono ?_
  rw [show [] ++ digs (zig (-1)) = [1] by decide]
  rintro e w' ⟨g, c, rfl, -, h⟩
  exact ⟨_, c, rfl, h⟩
theorem strAB : strOfNums [65, 66] = ⟨#[65, 66]⟩ := rfl

set_option maxRecDepth 100000 in
set_option maxHeartbeats 2000000 in
theorem wakes_any (w : World) :
    Calls Try.prog 8 #[] w fun e w' => e = .returned (.bool true) ∧ Below w.heap.size w w' := by
  have L9 := Lib.hid (lit_in w [9] #[.int .u8 9] rfl 1 rfl (by decide) (by unfold Byt; decide))
  have d300 : [9] ++ digs 300 = [9, 172, 2] := by decide
  have y3 : Byt [9, 172, 2] := by unfold Byt; decide
  have Y3 := Lib.hid y3
  have D3 := Lib.hid d300
  clear d300 y3
  go_enter Try.func8, Try.ntmps8
  go_upto_region 5 with (first
    | (go_at_call 10; refine (appendUint_any _ [9] 1 1 300 _ rfl L9.out.bys (by decide) (by decide) (by decide)).mono ?_; rintro e w1 hw; rw [D3.out] at hw; obtain ⟨g1, c1, rfl, m1, b1⟩ := hw; have M1 := Lib.hid m1; have B1 : Hid (Below w.heap.size w w1) := Lib.hid ((below_new w _).trans (b1.mono (by simp))); clear m1 b1)
    | (go_at_call 11; refine (own_any _ [9, 172, 2] _ c1 _ rfl M1.out.bys (by decide)).mono ?_; rintro e w2 ⟨g2, c2, rfl, m2, b2⟩; have I2 := Lib.hid (m2.in_n (n := 3) Y3.out rfl); have N2 := Lib.hid (M1.out.kept b2 (Nat.le_refl _)); have B2 := Lib.hid (below_then B1.out b2); clear m2 b2)
    | (go_at_call 17; (with_reducible refine (uint_300 _ _ c2 I2.out).mono ?_); rintro e w3 ⟨rfl, hw⟩; subst hw; have L2 := Lib.hid (lit_in w2 [128, 0] #[.int .u8 128, .int .u8 0] rfl 2 rfl (by decide) (by unfold Byt; decide)); have B3 := Lib.hid (below_then B2.out (below_new w2 (.cells #[.int .u8 128, .int .u8 0] 5))); have N3 := Lib.hid (N2.out.alloc (.cells #[.int .u8 128, .int .u8 0] 5)))
    | (go_at_call 17; (with_reducible refine (uint_bad _ _ 2 L2.out).mono ?_); rintro e w4 ⟨rfl, hw⟩; subst hw; have l4 := lit_in (w2.alloc (.cells #[.int .u8 128, .int .u8 0] 5)) [2, 65, 66] #[.int .u8 2, .int .u8 65, .int .u8 66] rfl 3 rfl (by decide) (by unfold Byt; decide); rw [World.size_alloc] at l4; have L4 := Lib.hid l4; clear l4; have N4 := Lib.hid (N3.out.alloc (.cells #[.int .u8 2, .int .u8 65, .int .u8 66] 5)); have B4 := Lib.hid (below_then B3.out (below_new _ (.cells #[.int .u8 2, .int .u8 65, .int .u8 66] 5))))
    | (go_at_call 19; (with_reducible refine (bytes_ab _ _ 3 L4.out).mono ?_); rintro e w5 ⟨A5, c5, rfl, s5, b5⟩; have B5 := Lib.hid (below_then B4.out b5); have k5 := conv_any s5 2 c5 rfl; have n5 := (N4.out.kept b5 (Nat.le_refl _)).cell (j := 1) (x := 172) rfl; rw [strAB] at k5; clear s5 b5))
  go_wp2_with (go_at_call 13; (with_reducible refine (append_minus _).mono ?_); rintro e w6 ⟨A6, c6, rfl, b6⟩; have B6 := Lib.hid (below_then B5.out b6); clear b6)
  go_ret
  exact ⟨rfl, B6.out⟩

end Go.Proofs.Ytbgolnaljmeneaa
