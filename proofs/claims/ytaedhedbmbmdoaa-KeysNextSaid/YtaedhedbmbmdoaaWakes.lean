/-
  The laws' own first call.
-/
import Derived.Test.YtaedhedbmbmdoaaWkK
import Derived.Test.YtaedhedbmbmdoaaWkM
import Derived.Test.YtaedhedbmbmdoaaWkO
namespace Go.Proofs.Ytaedhedbmbmdoaa
open Go.RowKit

theorem In.kept {w w' : World} {A : Option Addr} {L : List Int} {n c : Nat} (h : In w A L n c) (hb : Below w.heap.size w w') : In w' A L n c := ⟨h.len, h.cap, h.top, h.bys.kept hb, h.byt⟩
theorem Row.in_ {w : World} {B c : Nat} {A : Option Addr} {L : List Int} (h : Row w B A c L) (hB : Byt L) : In w A L L.length c := ⟨rfl, (own_cap h).1, (own_cap h).2, h.lies, hB⟩
theorem Row.in_n {w : World} {B c n : Nat} {A : Option Addr} {L : List Int} (h : Row w B A c L) (hB : Byt L) (hn : L.length = n) : In w A L n c := by
  subst hn
  exact h.in_ hB
theorem lit_in (w : World) (L : List Int) (cs : Array Value) (e : cs = (vals L).toArray) (n : Nat) (hn : L.length = n) (hl : n ≤ 9) (hB : Byt L) : In (w.alloc (.cells cs 5)) (some ⟨w.heap.size, 0, none⟩) L n n := by
  subst hn
  exact (row_made w w.heap.size L cs e hl (Nat.le_refl _)).in_ hB

def two : List Qt := [⟨false, 1, ⟨#[]⟩⟩, ⟨true, 0, ⟨#[97]⟩⟩]
theorem two_ok : ∀ q ∈ two, q.Ok := fun q hq => by
  simp [two] at hq
  rcases hq with rfl | rfl
  · exact ⟨by decide, by decide, by decide⟩
  · exact ⟨by decide, by decide, by decide⟩
theorem two_form : encP (pts two) = ([1, 128, 0, 0, 0, 0, 0, 0, 1, 2, 97, 0, 1], 0) := by decide +kernel
theorem two_made (w : World) : Pts (w.alloc (.cells #[.bool false, .int .i64 1, .string ⟨#[]⟩, .bool true, .int .i64 0, .string ⟨#[97]⟩] 41)) (some ⟨w.heap.size, 0, none⟩) two :=
  (prow_made w w.heap.size two _ rfl (by decide) (Nat.le_refl _)).lies
def Got13 (w : World) (e : Ending) (w' : World) : Prop := ∃ A c, e = .returned (.tuple #[.slice A 13 c, .int .i64 0]) ∧ Bys w' A [1, 128, 0, 0, 0, 0, 0, 0, 1, 2, 97, 0, 1] ∧ Below w.heap.size w w'
theorem encode_two (w : World) (A : Option Addr) (c : Nat) (h : Pts w A two) : Calls Try.prog 9 #[.slice A 2 c] w (Got13 w) := by
  refine (encode_any A two 2 c w rfl (by decide) h two_ok).mono ?_
  rw [two_form]
  rintro e w' ⟨A', c', rfl, h1, h2⟩
  exact ⟨A', c', rfl, h1.lies, h2⟩
theorem dec_a : decP [2, 97, 0, 1] = ([⟨true, 0, [97]⟩], 0) := by decide +kernel
theorem dec_3 : decP [3] = ([], 11) := by decide +kernel
def GotA (w : World) (e : Ending) (w' : World) : Prop := ∃ A c, e = .returned (.tuple #[.slice A 1 c, .int .i64 0]) ∧ Pts w' A [⟨true, 0, ⟨#[97]⟩⟩] ∧ Below w.heap.size w w'
theorem pts_inj {l m : List Qt} (h : pts l = pts m) : l = m := by
  have inj : ∀ p q : Qt, p.pt = q.pt → p = q := fun p q h => by
    obtain ⟨t, v, s⟩ := p
    obtain ⟨u, x, r⟩ := q
    simp only [Qt.pt, Pt.mk.injEq] at h
    obtain ⟨rfl, rfl, h⟩ := h
    rw [str_inj h]
  exact (List.map_inj_right inj).1 h
theorem decode_a (w : World) (A : Option Addr) (c : Nat) (h : In w A [2, 97, 0, 1] 4 c) : Calls Try.prog 13 #[.slice A 4 c] w (GotA w) := by
  refine (decode_any A _ 4 c w h (by decide)).mono ?_
  rw [dec_a]
  rintro e w' ⟨A', c', l, rfl, h1, h2, h3, h4⟩
  obtain rfl : l = [⟨true, 0, ⟨#[97]⟩⟩] := pts_inj (h1.trans (by decide +kernel))
  exact ⟨A', c', rfl, h3.lies, h4⟩
def Got11 (w : World) (e : Ending) (w' : World) : Prop := ∃ A c, e = .returned (.tuple #[.slice A 0 c, .int .i64 11]) ∧ Below w.heap.size w w'
theorem decode_3 (w : World) (A : Option Addr) (c : Nat) (h : In w A [3] 1 c) : Calls Try.prog 13 #[.slice A 1 c] w (Got11 w) := by
  refine (decode_any A _ 1 c w h (by decide)).mono ?_
  rw [dec_3]
  rintro e w' ⟨A', c', l, rfl, h1, h2, h3, h4⟩
  obtain rfl : l = [] := by simpa [pts] using h1
  exact ⟨A', c', rfl, h4⟩
def Got2 (w : World) (e : Ending) (w' : World) : Prop := ∃ A c, e = .returned (.slice A 1 c) ∧ Bys w' A [2] ∧ Below w.heap.size w w'
theorem next_12 (w : World) (A : Option Addr) (c : Nat) (h : In w A [1, 255] 2 c) : Calls Try.prog 19 #[.slice A 2 c] w (Got2 w) := by
  refine (next_any A _ 2 c w h (by decide)).mono ?_
  rw [show nextL [1, 255] = [2] by decide]
  rintro e w' ⟨A', c', rfl, h1, h2⟩
  exact ⟨A', c', rfl, h1.lies, h2⟩
theorem str13 : strOfNums [1, 128, 0, 0, 0, 0, 0, 0, 1, 2, 97, 0, 1] = ⟨#[1, 128, 0, 0, 0, 0, 0, 0, 1, 2, 97, 0, 1]⟩ := rfl
theorem str2 : strOfNums [2] = ⟨#[2]⟩ := rfl

set_option maxRecDepth 100000 in
set_option maxHeartbeats 2000000 in
theorem wakes_any (w : World) :
    Calls Try.prog 8 #[] w fun e w' => e = .returned (.bool true) ∧ Below w.heap.size w w' := by
  have T1 := Lib.hid (two_made w)
  have y4 : Byt [2, 97, 0, 1] := by unfold Byt; decide
  have y1 : Byt [3] := by unfold Byt; decide
  have y2 : Byt [1, 255] := by unfold Byt; decide
  have Y4 := Lib.hid y4
  have Y1 := Lib.hid y1
  have Y2 := Lib.hid y2
  clear y4 y1 y2
  go_enter Try.func8, Try.ntmps8
  go_upto_region 4 with (first
    | (go_at_call 9; refine (encode_two _ _ _ T1.out).mono ?_; rintro e w1 ⟨A1, c1, rfl, s1, b1⟩; have S1 := Lib.hid s1; have B1 : Hid (Below w.heap.size w w1) := Lib.hid ((below_new w _).trans (b1.mono (by simp))); have L1 := Lib.hid (lit_in w1 [2, 97, 0, 1] #[.int .u8 2, .int .u8 97, .int .u8 0, .int .u8 1] rfl 4 rfl (by decide) Y4.out); clear s1 b1)
    | (go_at_call 13; (with_reducible refine (decode_a _ _ _ L1.out).mono ?_); rintro e w2 ⟨A2, c2, rfl, s2, b2⟩; have S2 := Lib.hid s2; have N2 := Lib.hid ((S1.out.alloc _).kept b2); have B2 : Hid (Below w.heap.size w w2) := Lib.hid ((below_then B1.out (below_new w1 _)).trans (b2.mono (by have := B1.out.size; simp; omega))); have L2 := Lib.hid (lit_in w2 [3] #[.int .u8 3] rfl 1 rfl (by decide) Y1.out); clear s2 b2)
    | (go_at_call 13; (with_reducible refine (decode_3 _ _ _ L2.out).mono ?_); rintro e w3 ⟨A3, c3, rfl, b3⟩; have N3 := Lib.hid ((N2.out.alloc _).kept b3); have P3 := Lib.hid ((S2.out.alloc _).kept b3); have B3 : Hid (Below w.heap.size w w3) := Lib.hid ((below_then B2.out (below_new w2 _)).trans (b3.mono (by have := B2.out.size; simp; omega))); have L3 := Lib.hid (lit_in w3 [1, 255] #[.int .u8 1, .int .u8 255] rfl 2 rfl (by decide) Y2.out); clear b3))
  have k3 := conv_any N3.out 13 c1 rfl
  rw [str13] at k3
  obtain ⟨ad, rfl, a0, a1, a2⟩ := P3.out.at_ (j := 0) rfl
  rw [show ad.add (0 * 3) = ad by simp [Addr.add]] at a0 a1 a2
  simp only at a2
  clear a0 a1
  go_wp2_with (go_at_call 19; (with_reducible refine (next_12 _ _ _ L3.out).mono ?_); rintro e w4 ⟨A4, c4, rfl, s4, b4⟩; have k4 := conv_any s4 1 c4 rfl; rw [str2] at k4; have B4 : Hid (Below w.heap.size w w4) := Lib.hid ((below_then B3.out (below_new w3 _)).trans (b4.mono (by have := B3.out.size; simp; omega))); clear s4 b4)
  go_ret
  exact ⟨rfl, B4.out⟩

end Go.Proofs.Ytaedhedbmbmdoaa
