/-
  The law FrameReads.
-/
import Derived.Test.YtefkibflellfpaaLawA
namespace Go.Proofs.Ytefkibflellfpaa
open Go.RowKit

theorem read_on (w0 w : World) (A : Option Addr) (L : List Int) (n c : Nat) (at_ : Int) (p : List Int × Int × Int) (hp : readP L at_ = p) (q : Nat) (hq : p.1.length = q) (hw : Below w0.heap.size w0 w) (h : In w A L n c) :
    Calls Try.prog 13 #[.slice A n c, .int .i64 at_] w fun e w' => ∃ A' c', e = .returned (.tuple #[.slice A' q c', .int .i64 p.2.1, .int .i64 p.2.2]) ∧ Hid (Row w' w.heap.size A' c' p.1) ∧ Hid (Below w.heap.size w w') ∧ Hid (Below w0.heap.size w0 w') := by
  subst hp
  subst hq
  refine (read_any A L n c at_ w h).mono ?_
  rintro e w' ⟨A', c', rfl, h1, h2⟩
  exact ⟨A', c', rfl, Lib.hid h1, Lib.hid h2, Lib.hid (below_then hw h2)⟩
theorem refRead_on (w0 w : World) (A : Option Addr) (L : List Int) (n c : Nat) (at_ : Int) (p : List Int × Int × Int) (hp : readP L at_ = p) (q : Nat) (hq : p.1.length = q) (hw : Below w0.heap.size w0 w) (h : In w A L n c) :
    Calls Try.prog 14 #[.slice A n c, .int .i64 at_] w fun e w' => ∃ A' c', e = .returned (.tuple #[.slice A' q c', .int .i64 p.2.1, .int .i64 p.2.2]) ∧ Hid (Row w' w.heap.size A' c' p.1) ∧ Hid (Below w.heap.size w w') ∧ Hid (Below w0.heap.size w0 w') := by
  subst hp
  subst hq
  refine (refRead_any A L n c at_ w h).mono ?_
  rintro e w' ⟨A', c', rfl, h1, h2⟩
  exact ⟨A', c', rfl, Lib.hid h1, Lib.hid h2, Lib.hid (below_then hw h2)⟩

/-- Frames that have been read. -/
structure Frs (B : Nat) (w : World) (A : Option Addr) (c m : Nat) (l : List (List Int)) (T : List Sl) : Prop where
  len : T.length = m
  byt : byts T = l
  row : Srow w B A c T
  rows : ∀ s ∈ T, Row w B s.a s.c s.l
theorem Frs.kept {B C : Nat} {w w' : World} {A : Option Addr} {c m : Nat} {l : List (List Int)} {T : List Sl} (h : Frs B w A c m l T) (hb : Below C w w') (hC : w.heap.size ≤ C) : Frs B w' A c m l T := ⟨h.len, h.byt, h.row.kept hb hC, fun s hs => (h.rows s hs).kept hb hC⟩
theorem all_on (w0 w : World) (A : Option Addr) (L : List Int) (n c : Nat) (p : List (List Int) × Nat × Int) (hp : allL L = p) (m : Nat) (hm : p.1.length = m) (hs : n ≤ 35184372088832) (hw : Below w0.heap.size w0 w) (h : In w A L n c) :
    Calls Try.prog 15 #[.slice A n c] w fun e w' => ∃ A' c' T, e = .returned (.tuple #[.slice A' m c', .int .i64 (p.2.1 : Nat), .int .i64 p.2.2]) ∧ Hid (Frs w.heap.size w' A' c' m p.1 T) ∧ Hid (Below w.heap.size w w') ∧ Hid (Below w0.heap.size w0 w') := by
  subst hp
  subst hm
  refine (all_any A L n c w h hs).mono ?_
  rintro e w' ⟨A', c', T, rfl, h1, h2, h3, h4⟩
  have hl : T.length = (allL L).1.length := by rw [← h2, byts_len]
  exact ⟨A', c', T, by rw [hl], Lib.hid ⟨hl, h2, h1, h3⟩, Lib.hid h4, Lib.hid (below_then hw h4)⟩
theorem refAll_on (w0 w : World) (A : Option Addr) (L : List Int) (n c : Nat) (p : List (List Int) × Nat × Int) (hp : allL L = p) (m : Nat) (hm : p.1.length = m) (hs : n ≤ 35184372088832) (hw : Below w0.heap.size w0 w) (h : In w A L n c) :
    Calls Try.prog 16 #[.slice A n c] w fun e w' => ∃ A' c' T, e = .returned (.tuple #[.slice A' m c', .int .i64 (p.2.1 : Nat), .int .i64 p.2.2]) ∧ Hid (Frs w.heap.size w' A' c' m p.1 T) ∧ Hid (Below w.heap.size w w') ∧ Hid (Below w0.heap.size w0 w') := by
  subst hp
  subst hm
  refine (refAll_any A L n c w h hs).mono ?_
  rintro e w' ⟨A', c', T, rfl, h1, h2, h3, h4⟩
  have hl : T.length = (allL L).1.length := by rw [← h2, byts_len]
  exact ⟨A', c', T, by rw [hl], Lib.hid ⟨hl, h2, h1, h3⟩, Lib.hid h4, Lib.hid (below_then hw h4)⟩
theorem below_drewN {w0 w : World} (h : Below w0.heap.size w0 w) (k : Nat) : Below w0.heap.size w0 (w.drewN k) := ⟨h.os, h.tape, h.output, h.size, h.block⟩
/-- Lists of frames alike, on the way. -/
theorem frs_same (w0 w : World) (B C : Nat) (A A' : Option Addr) (c c' m : Nat) (l : List (List Int)) (T U : List Sl) (hw : Below w0.heap.size w0 w) (h : Frs B w A c m l T) (g : Frs C w A' c' m l U) (hm : m ≤ 9223372036854775807) :
    Calls Try.prog 18 #[.slice A m c, .slice A' m c'] w fun e w' => e = .returned (.bool true) ∧ Hid (Below w0.heap.size w0 w') ∧ Hid (Below w.heap.size w w') := by
  refine (ssame_any A A' T U m m c c' w h.len g.len hm h.row.lies g.row.lies (rows_bys h.rows) (rows_bys g.rows) (by rw [h.byt, g.byt])).mono ?_
  rintro e w' ⟨rfl, k, rfl⟩
  exact ⟨rfl, Lib.hid (below_drewN hw k), Lib.hid (below_drewN (Below.refl _ _) k)⟩

set_option maxRecDepth 100000 in
set_option maxHeartbeats 2000000 in
theorem reads_law (A : Option Addr) (L : List Int) (n c : Nat) (at_ : Int) (w : World) (h : In w A L n c) (hs : n ≤ 1048576) :
    Calls Try.prog 4 #[.slice A n c, .int .i64 at_] w (AllTrue w) := by
  obtain ⟨r, hr⟩ : ∃ r, readP L at_ = r := ⟨_, rfl⟩
  obtain ⟨q, hq⟩ : ∃ q, r.1.length = q := ⟨_, rfl⟩
  obtain ⟨p, hp⟩ : ∃ p, allL L = p := ⟨_, rfl⟩
  obtain ⟨m, hm⟩ : ∃ m, p.1.length = m := ⟨_, rfl⟩
  have HR := Lib.hid hr
  have HQ := Lib.hid hq
  have HP := Lib.hid hp
  have HM := Lib.hid hm
  have HI := Lib.hid h
  have HS := Lib.hid hs
  clear h hr hq hp hm hs
  go_enter Try.func4, Try.ntmps4
  go_upto_region 7 with (first
    | (go_at_call 9; refine (wakes_on w _ (Below.refl _ _)).mono ?_; rintro e1 w1 ⟨rfl, b1⟩)
    | (go_at_call 11; (with_reducible refine (own_on w _ A L n c b4.out HI.out.len (HI.out.bys.kept b4.out) (by have := HS.out; omega)).mono ?_); rintro e5 w5 ⟨A5, c5, rfl, r5, k5, b5⟩)
    | (go_at_call 11; (with_reducible refine (own_on w _ A L n c b1.out HI.out.len (HI.out.bys.kept b1.out) (by have := HS.out; omega)).mono ?_); rintro e2 w2 ⟨A2, c2, rfl, r2, k2, b2⟩)
    | (go_at_call 13; refine (read_on w _ A2 L n c2 at_ r HR.out q HQ.out b2.out (r2.out.in_n HI.out.byt HI.out.len)).mono ?_; rintro e3 w3 ⟨A3, c3, rfl, r3, k3, b3⟩)
    | (go_at_call 14; refine (refRead_on w _ A L n c at_ r HR.out q HQ.out b3.out (HI.out.kept b3.out)).mono ?_; rintro e4 w4 ⟨A4, c4, rfl, r4, k4, b4⟩)
    | (go_at_call 15; refine (all_on w _ A5 L n c5 p HP.out m HM.out (by have := HS.out; omega) b5.out (r5.out.in_n HI.out.byt HI.out.len)).mono ?_; rintro e6 w6 ⟨A6, c6, T6, rfl, f6, k6, b6⟩)
    | (go_at_call 16; refine (refAll_on w _ A L n c p HP.out m HM.out (by have := HS.out; omega) b6.out (HI.out.kept b6.out)).mono ?_; rintro e7 w7 ⟨A7, c7, T7, rfl, f7, k7, b7⟩))
  have K37 := Lib.hid (k4.out.trans ((k5.out.mono (by exact k4.out.size)).trans ((k6.out.mono (Nat.le_trans k4.out.size k5.out.size)).trans (k7.out.mono (Nat.le_trans k4.out.size (Nat.le_trans k5.out.size k6.out.size))))))
  have K47 := Lib.hid (k5.out.trans ((k6.out.mono k5.out.size).trans (k7.out.mono (Nat.le_trans k5.out.size k6.out.size))))
  have R3 := Lib.hid (r3.out.kept K37.out (Nat.le_refl _))
  have R4 := Lib.hid (r4.out.kept K47.out (Nat.le_refl _))
  have F6 := Lib.hid (f6.out.kept k7.out (Nat.le_refl _))
  have F7 := Lib.hid f7.out
  have B7 := Lib.hid b7.out
  have hm9 : Hid (m ≤ 9223372036854775807) := Lib.hid (by have := own_cap F7.out.row; have := F7.out.len; omega)
  clear b1 r2 k2 b2 r3 k3 b3 r4 k4 b4 r5 k5 b5 f6 k6 b6 f7 k7 b7
  go_wp2_with (first
    | (go_at_call 17; refine (same_any A3 A4 r.1 q q c3 c4 _ HQ.out HQ.out R3.out.lies R4.out.lies).mono ?_; rintro e8 w8 ⟨rfl, hw⟩; subst hw)
    | (go_at_call 18; refine (frs_same w _ _ _ A6 A7 c6 c7 m p.1 T6 T7 B7.out F6.out F7.out hm9.out).mono ?_; rintro e9 w9 ⟨rfl, b9, k9⟩))
  go_ret
  exact ⟨by simp, b9.out⟩

end Go.Proofs.Ytefkibflellfpaa
