/-
  The laws KeysWrites, KeysBack.
-/
import Derived.Test.YtaedhedbmbmdoaaWakes
namespace Go.Proofs.Ytaedhedbmbmdoaa
open Go.RowKit

/-- Parts that come in: as they lie, their length. -/
structure PIn (w : World) (A : Option Addr) (l : List Qt) (n c : Nat) : Prop where
  len : l.length = n
  cap : n ≤ c
  top : (c : Int) ≤ 9223372036854775807
  size : n * 32 ≤ 140737488351232
  pts : Pts w A l
  ok : ∀ q ∈ l, q.Ok
theorem PIn.kept {w w' : World} {A : Option Addr} {l : List Qt} {n c : Nat} (h : PIn w A l n c) (hb : Below w.heap.size w w') : PIn w' A l n c := ⟨h.len, h.cap, h.top, h.size, h.pts.kept hb, h.ok⟩

def AllTrue (w : World) (e : Ending) (w' : World) : Prop := e = .returned (.bool true) ∧ Below w.heap.size w w'
theorem wakes_any' (w0 w : World) (h : Below w0.heap.size w0 w) : Calls Try.prog 8 #[] w fun e w' => e = .returned (.bool true) ∧ Hid (Below w0.heap.size w0 w') :=
  (wakes_any w).mono fun _ _ ⟨h1, h2⟩ => ⟨h1, Lib.hid (below_then h h2)⟩
/-- A copy of parts, made on the way. -/
theorem parts_on (w0 w : World) (A : Option Addr) (l : List Qt) (n c : Nat) (hw : Below w0.heap.size w0 w) (h : PIn w0 A l n c) :
    Calls Try.prog 10 #[.slice A n c] w fun e w' => ∃ A' c', e = .returned (.slice A' n c') ∧ Hid (Prow w' w.heap.size A' c' l) ∧ Hid (Below w.heap.size w w') ∧ Hid (Below w0.heap.size w0 w') := by
  refine (parts_any A l n c w h.len (h.pts.kept hw) (by rw [h.len]; exact h.size)).mono ?_
  rintro e w' ⟨A', c', rfl, h1, h2⟩
  rw [h.len]
  exact ⟨A', c', rfl, Lib.hid h1, Lib.hid h2, Lib.hid (below_then hw h2)⟩
/-- What is written of parts, on the way. -/
theorem encode_on (w0 w : World) (A : Option Addr) (l : List Qt) (n c : Nat) (p : List Int × Int) (hp : encP (pts l) = p) (x : Nat) (hx : p.1.length = x) (hw : Below w0.heap.size w0 w) (hn : l.length = n) (hs : n ≤ 140737488351232) (h : Pts w A l) (ho : ∀ q ∈ l, q.Ok) :
    Calls Try.prog 9 #[.slice A n c] w fun e w' => ∃ A' c', e = .returned (.tuple #[.slice A' x c', .int .i64 p.2]) ∧ Hid (Row w' w.heap.size A' c' p.1) ∧ Hid (Below w.heap.size w w') ∧ Hid (Below w0.heap.size w0 w') := by
  subst hp
  subst hx
  refine (encode_any A l n c w hn hs h ho).mono ?_
  rintro e w' ⟨A', c', rfl, h1, h2⟩
  exact ⟨A', c', rfl, Lib.hid h1, Lib.hid h2, Lib.hid (below_then hw h2)⟩
theorem refEncode_on (w0 w : World) (A : Option Addr) (l : List Qt) (n c : Nat) (p : List Int × Int) (hp : encP (pts l) = p) (x : Nat) (hx : p.1.length = x) (hw : Below w0.heap.size w0 w) (h : PIn w0 A l n c) :
    Calls Try.prog 11 #[.slice A n c] w fun e w' => ∃ A' c', e = .returned (.tuple #[.slice A' x c', .int .i64 p.2]) ∧ Hid (Row w' w.heap.size A' c' p.1) ∧ Hid (Below w.heap.size w w') ∧ Hid (Below w0.heap.size w0 w') := by
  subst hp
  subst hx
  refine (refEncode_any A l n c w h.len (by have := h.size; omega) (h.pts.kept hw) h.ok).mono ?_
  rintro e w' ⟨A', c', rfl, h1, h2⟩
  exact ⟨A', c', rfl, Lib.hid h1, Lib.hid h2, Lib.hid (below_then hw h2)⟩

set_option maxRecDepth 100000 in
set_option maxHeartbeats 2000000 in
theorem writes_law (A : Option Addr) (l : List Qt) (n c : Nat) (w : World) (h : PIn w A l n c) :
    Calls Try.prog 3 #[.slice A n c] w (AllTrue w) := by
  obtain ⟨p, hp⟩ : ∃ p, encP (pts l) = p := ⟨_, rfl⟩
  obtain ⟨x, hx⟩ : ∃ x, p.1.length = x := ⟨_, rfl⟩
  have HP := Lib.hid hp
  have HX := Lib.hid hx
  have HI := Lib.hid h
  clear h hp hx
  go_enter Try.func3, Try.ntmps3
  go_wp2_with (first
    | (go_at_call 8; refine (wakes_any' w _ (Below.refl _ _)).mono ?_; rintro e1 w1 ⟨rfl, b1⟩)
    | (go_at_call 10; refine (parts_on w _ A l n c b1.out HI.out).mono ?_; rintro e2 w2 ⟨A2, c2, rfl, r2, k2, b2⟩)
    | (go_at_call 9; refine (encode_on w _ A2 l n c2 p HP.out x HX.out b2.out HI.out.len (by have := HI.out.size; omega) r2.out.lies HI.out.ok).mono ?_; rintro e3 w3 ⟨A3, c3, rfl, r3, k3, b3⟩)
    | (go_at_call 11; refine (refEncode_on w _ A l n c p HP.out x HX.out b3.out HI.out).mono ?_; rintro e4 w4 ⟨A4, c4, rfl, r4, k4, b4⟩; have r5 := Lib.hid (r3.out.kept k4.out (Nat.le_refl _)))
    | (go_at_call 12; refine (same_any A3 A4 p.1 x x c3 c4 _ HX.out HX.out r5.out.lies r4.out.lies).mono ?_; rintro e5 w5 ⟨rfl, hw⟩; subst hw))
  go_ret
  exact ⟨by simp, b4.out⟩

/-- A copy of bytes, on the way. -/
theorem own_on (w0 w : World) (A : Option Addr) (L : List Int) (n c : Nat) (hw : Below w0.heap.size w0 w) (hn : L.length = n) (h : Bys w A L) (hl : n ≤ 140737488351232) :
    Calls Try.prog 14 #[.slice A n c] w fun e w' => ∃ A' c', e = .returned (.slice A' n c') ∧ Hid (Row w' w.heap.size A' c' L) ∧ Hid (Below w.heap.size w w') ∧ Hid (Below w0.heap.size w0 w') := by
  subst hn
  refine (own_any A L _ c w rfl h hl).mono ?_
  rintro e w' ⟨A', c', rfl, h1, h2⟩
  exact ⟨A', c', rfl, Lib.hid h1, Lib.hid h2, Lib.hid (below_then hw h2)⟩
/-- What is written, read back, on the way. -/
theorem decode_back (w0 w : World) (A : Option Addr) (l : List Qt) (p : List Int × Int) (x c n : Nat) (hp : encP (pts l) = p) (h0 : p.2 = 0) (hn : l.length = n) (ho : ∀ q ∈ l, q.Ok) (hw : Below w0.heap.size w0 w) (h : In w A p.1 x c) (hx : x ≤ 281474976710656) :
    Calls Try.prog 13 #[.slice A x c] w fun e w' => ∃ A' c', e = .returned (.tuple #[.slice A' n c', .int .i64 0]) ∧ Hid (Prow w' w.heap.size A' c' l) ∧ Hid (Below w.heap.size w w') ∧ Hid (Below w0.heap.size w0 w') := by
  subst hp
  subst hn
  obtain ⟨e1, e2⟩ := decP_encP (pts l) (pts_fit ho) h0
  refine (decode_any A _ x c w h hx).mono ?_
  rw [e1, e2]
  rintro e w' ⟨A', c', l', rfl, h1, h2, h3, h4⟩
  obtain rfl : l' = l := pts_inj h1
  exact ⟨A', c', rfl, Lib.hid h3, Lib.hid h4, Lib.hid (below_then hw h4)⟩
/-- Bytes that are read, on the way. -/
structure Gotten (w w' : World) (d : List Pt × Int) (A : Option Addr) (m c : Nat) (l : List Qt) : Prop where
  len : l.length = m
  pts : pts l = d.1
  ok : ∀ q ∈ l, q.Ok
  row : Prow w' w.heap.size A c l
theorem decode_on (w0 w : World) (A : Option Addr) (L : List Int) (n c : Nat) (d : List Pt × Int) (hd : decP L = d) (hw : Below w0.heap.size w0 w) (h : In w A L n c) (hn : n ≤ 281474976710656) :
    Calls Try.prog 13 #[.slice A n c] w fun e w' => ∃ A' c' m l, e = .returned (.tuple #[.slice A' m c', .int .i64 d.2]) ∧ Hid (Gotten w w' d A' m c' l) ∧ Hid (Below w.heap.size w w') ∧ Hid (Below w0.heap.size w0 w') := by
  subst hd
  refine (decode_any A L n c w h hn).mono ?_
  rintro e w' ⟨A', c', l, rfl, h1, h2, h3, h4⟩
  exact ⟨A', c', _, l, rfl, Lib.hid ⟨rfl, h1, h2, h3⟩, Lib.hid h4, Lib.hid (below_then hw h4)⟩
theorem encode_short (l : List Qt) (p : List Int × Int) (hp : encP (pts l) = p) : p.1.length ≤ 200 := by
  subst hp
  unfold encP
  repeat' split
  all_goals simp
  rename_i h
  omega
theorem encode_byt (l : List Qt) (ho : ∀ q ∈ l, q.Ok) (p : List Int × Int) (hp : encP (pts l) = p) : Byt p.1 := by
  subst hp
  unfold encP
  repeat' split
  all_goals first
    | exact Byt.nil
    | exact encL_byt _ (pts_fit ho)
theorem decode_none (L : List Int) (d : List Pt × Int) (hd : decP L = d) (h : d.2 ≠ 0) : d.1 = [] := by
  subst hd
  unfold decP at h ⊢
  repeat' split at h
  all_goals first
    | (simp at h; done)
    | skip
  · rw [if_pos ‹_›]
  · rw [if_neg ‹_›, if_pos ‹_›]
  · rw [if_neg ‹_›, if_neg ‹_›, if_pos ‹_›]
theorem decode_len (L : List Int) (d : List Pt × Int) (hd : decP L = d) : d.1.length ≤ 8 := by
  subst hd
  unfold decP
  repeat' split
  all_goals simp
  rename_i h _
  omega

theorem below_drew {w0 w : World} (h : Below w0.heap.size w0 w) (k : Nat) : Below w0.heap.size w0 (w.drewN k) := ⟨h.os, h.tape, h.output, h.size, h.block⟩
theorem pts_none {w w' : World} {L : List Int} {d : List Pt × Int} {A : Option Addr} {m c : Nat} {l : List Qt} (hd : decP L = d) (h : d.2 ≠ 0) (g : Gotten w w' d A m c l) : l = [] := by
  have e := g.pts
  rw [decode_none L d hd h] at e
  simpa [pts] using e
theorem gotten_len {w w' : World} {L : List Int} {d : List Pt × Int} {A : Option Addr} {m c : Nat} {l : List Qt} (hd : decP L = d) (g : Gotten w w' d A m c l) : l.length ≤ 8 := by
  have e := g.pts
  have := decode_len L d hd
  rw [← e, pts_len] at this
  exact this
theorem gotten_enc {w w' : World} {L : List Int} {d : List Pt × Int} {A : Option Addr} {m c : Nat} {l : List Qt} (hB : Byt L) (hd : decP L = d) (h : d.2 = 0) (g : Gotten w w' d A m c l) : encP (pts l) = (L, 0) := by
  subst hd
  rw [g.pts]
  exact (encP_decP L hB h).1

set_option maxRecDepth 100000 in
set_option maxHeartbeats 4000000 in
theorem back_00 (A C : Option Addr) (l : List Qt) (L : List Int) (n c m d : Nat) (p : List Int × Int) (f : List Pt × Int) (x : Nat) (w : World) (h : PIn w A l n c) (g : In w C L m d) (hm : m ≤ 140737488351232) (hp : encP (pts l) = p) (hx : p.1.length = x) (hf : decP L = f) (h1 : p.2 = 0) (h2 : f.2 = 0) :
    Calls Try.prog 4 #[.slice A n c, .slice C m d] w (AllTrue w) := by
    have HS : Hid (x ≤ 140737488351232) := Lib.hid (by have := encode_short l p hp; omega)
    have HY := Lib.hid (encode_byt l h.ok p hp)
    have HP := Lib.hid hp
    have HX := Lib.hid hx
    have HI := Lib.hid h
    have HJ := Lib.hid g
    have HT := Lib.hid hm
    have HD := Lib.hid hf
    have HZ := Lib.hid h1
    have HF := Lib.hid h2
    have z1 : (p.2 == 0) = true := by simpa using h1
    have z2 : (f.2 != 0) = false := by simpa using h2
    clear h hp hx g hm hf h1 h2
    go_enter Try.func4, Try.ntmps4
    go_wp2_with (first
      | (go_at_call 8; refine (wakes_any' w _ (Below.refl _ _)).mono ?_; rintro e1 w1 ⟨rfl, b1⟩)
      | (go_at_call 10; (with_reducible refine (parts_on w _ A l n c b1.out HI.out).mono ?_); rintro e2 w2 ⟨A2, c2, rfl, r2, k2, b2⟩)
      | (go_at_call 9; (with_reducible refine (encode_on w _ A2 l n c2 p HP.out x HX.out b2.out HI.out.len (by have := HI.out.size; omega) r2.out.lies HI.out.ok).mono ?_); rintro e3 w3 ⟨A3, c3, rfl, r3, k3, b3⟩)
      | (go_at_call 14; (with_reducible refine (own_on w _ A3 p.1 x c3 b3.out HX.out r3.out.lies HS.out).mono ?_); rintro e4 w4 ⟨A4, c4, rfl, r4, k4, b4⟩)
      | (go_at_call 13; (with_reducible refine (decode_back w _ A4 l p x c4 n HP.out HZ.out HI.out.len HI.out.ok b4.out (r4.out.in_n HY.out HX.out) (by have := HS.out; omega)).mono ?_); rintro e5 w5 ⟨A5, c5, rfl, r5, k5, b5⟩)
      | (go_at_call 15; (with_reducible refine (psame_any A5 A l n c5 c _ HI.out.len (by have := HI.out.size; omega) r5.out.lies (HI.out.pts.kept b5.out)).mono ?_); rintro e6 w6 ⟨rfl, k6, hw⟩; have b6 := Lib.hid (below_drew b5.out k6); rw [← hw] at b6; clear hw)
      | (go_at_call 14; (with_reducible refine (own_on w _ C L m d b6.out HJ.out.len (HJ.out.bys.kept b6.out) HT.out).mono ?_); rintro e7 w7 ⟨A7, c7, rfl, r7, k7, b7⟩)
      | (go_at_call 13; (with_reducible refine (decode_on w _ A7 L m c7 f HD.out b7.out (r7.out.in_n HJ.out.byt HJ.out.len) (by have := HT.out; omega)).mono ?_); rintro e8 w8 ⟨A8, c8, z, g, rfl, r8, k8, b8⟩)
      | (go_at_call 10; (with_reducible refine (parts_any A8 g z c8 _ r8.out.len r8.out.row.lies (by have := gotten_len HD.out r8.out; omega)).mono ?_); rintro e9 w9 ⟨A9, c9, rfl, r9', k9'⟩; rw [r8.out.len]; have r9 := Lib.hid r9'; have b9 := Lib.hid (below_then b8.out k9'); clear r9' k9')
      | (go_at_call 9; (with_reducible refine (encode_on w _ A9 g z c9 (L, 0) (gotten_enc HJ.out.byt HD.out HF.out r8.out) m HJ.out.len b9.out r8.out.len (by have := gotten_len HD.out r8.out; have := r8.out.len; omega) r9.out.lies r8.out.ok).mono ?_); rintro e10 w10 ⟨A10, c10, rfl, r10, k10, b10⟩)
      | (go_at_call 12; (with_reducible refine (same_any A10 C L m m c10 d _ HJ.out.len HJ.out.len r10.out.lies (HJ.out.bys.kept b10.out)).mono ?_); rintro e11 w11 ⟨rfl, hw⟩; subst hw))
    go_ret
    exact ⟨by simp, b10.out⟩

set_option maxRecDepth 100000 in
set_option maxHeartbeats 4000000 in
theorem back_01 (A C : Option Addr) (l : List Qt) (L : List Int) (n c m d : Nat) (p : List Int × Int) (f : List Pt × Int) (x : Nat) (w : World) (h : PIn w A l n c) (g : In w C L m d) (hm : m ≤ 140737488351232) (hp : encP (pts l) = p) (hx : p.1.length = x) (hf : decP L = f) (h1 : p.2 = 0) (h2 : f.2 ≠ 0) :
    Calls Try.prog 4 #[.slice A n c, .slice C m d] w (AllTrue w) := by
    have HS : Hid (x ≤ 140737488351232) := Lib.hid (by have := encode_short l p hp; omega)
    have HY := Lib.hid (encode_byt l h.ok p hp)
    have HP := Lib.hid hp
    have HX := Lib.hid hx
    have HI := Lib.hid h
    have HJ := Lib.hid g
    have HT := Lib.hid hm
    have HD := Lib.hid hf
    have HZ := Lib.hid h1
    have HF := Lib.hid h2
    have z1 : (p.2 == 0) = true := by simpa using h1
    have z2 : (f.2 != 0) = true := by simpa using h2
    clear h hp hx g hm hf h1 h2
    go_enter Try.func4, Try.ntmps4
    go_wp2_with (first
      | (go_at_call 8; refine (wakes_any' w _ (Below.refl _ _)).mono ?_; rintro e1 w1 ⟨rfl, b1⟩)
      | (go_at_call 10; (with_reducible refine (parts_on w _ A l n c b1.out HI.out).mono ?_); rintro e2 w2 ⟨A2, c2, rfl, r2, k2, b2⟩)
      | (go_at_call 9; (with_reducible refine (encode_on w _ A2 l n c2 p HP.out x HX.out b2.out HI.out.len (by have := HI.out.size; omega) r2.out.lies HI.out.ok).mono ?_); rintro e3 w3 ⟨A3, c3, rfl, r3, k3, b3⟩)
      | (go_at_call 14; (with_reducible refine (own_on w _ A3 p.1 x c3 b3.out HX.out r3.out.lies HS.out).mono ?_); rintro e4 w4 ⟨A4, c4, rfl, r4, k4, b4⟩)
      | (go_at_call 13; (with_reducible refine (decode_back w _ A4 l p x c4 n HP.out HZ.out HI.out.len HI.out.ok b4.out (r4.out.in_n HY.out HX.out) (by have := HS.out; omega)).mono ?_); rintro e5 w5 ⟨A5, c5, rfl, r5, k5, b5⟩)
      | (go_at_call 15; (with_reducible refine (psame_any A5 A l n c5 c _ HI.out.len (by have := HI.out.size; omega) r5.out.lies (HI.out.pts.kept b5.out)).mono ?_); rintro e6 w6 ⟨rfl, k6, hw⟩; have b6 := Lib.hid (below_drew b5.out k6); rw [← hw] at b6; clear hw)
      | (go_at_call 14; (with_reducible refine (own_on w _ C L m d b6.out HJ.out.len (HJ.out.bys.kept b6.out) HT.out).mono ?_); rintro e7 w7 ⟨A7, c7, rfl, r7, k7, b7⟩)
      | (go_at_call 13; (with_reducible refine (decode_on w _ A7 L m c7 f HD.out b7.out (r7.out.in_n HJ.out.byt HJ.out.len) (by have := HT.out; omega)).mono ?_); rintro e8 w8 ⟨A8, c8, z, g, rfl, r8, k8, b8⟩))
    go_ret
    exact ⟨by rw [← r8.out.len, pts_none HD.out HF.out r8.out]; rfl, b8.out⟩

set_option maxRecDepth 100000 in
set_option maxHeartbeats 4000000 in
theorem back_10 (A C : Option Addr) (l : List Qt) (L : List Int) (n c m d : Nat) (p : List Int × Int) (f : List Pt × Int) (x : Nat) (w : World) (h : PIn w A l n c) (g : In w C L m d) (hm : m ≤ 140737488351232) (hp : encP (pts l) = p) (hx : p.1.length = x) (hf : decP L = f) (h1 : p.2 ≠ 0) (h2 : f.2 = 0) :
    Calls Try.prog 4 #[.slice A n c, .slice C m d] w (AllTrue w) := by
    have HS : Hid (x ≤ 140737488351232) := Lib.hid (by have := encode_short l p hp; omega)
    have HY := Lib.hid (encode_byt l h.ok p hp)
    have HP := Lib.hid hp
    have HX := Lib.hid hx
    have HI := Lib.hid h
    have HJ := Lib.hid g
    have HT := Lib.hid hm
    have HD := Lib.hid hf
    have HZ := Lib.hid h1
    have HF := Lib.hid h2
    have z1 : (p.2 == 0) = false := by simpa using h1
    have z2 : (f.2 != 0) = false := by simpa using h2
    clear h hp hx g hm hf h1 h2
    go_enter Try.func4, Try.ntmps4
    go_wp2_with (first
      | (go_at_call 8; refine (wakes_any' w _ (Below.refl _ _)).mono ?_; rintro e1 w1 ⟨rfl, b1⟩)
      | (go_at_call 10; (with_reducible refine (parts_on w _ A l n c b1.out HI.out).mono ?_); rintro e2 w2 ⟨A2, c2, rfl, r2, k2, b2⟩)
      | (go_at_call 9; (with_reducible refine (encode_on w _ A2 l n c2 p HP.out x HX.out b2.out HI.out.len (by have := HI.out.size; omega) r2.out.lies HI.out.ok).mono ?_); rintro e3 w3 ⟨A3, c3, rfl, r3, k3, b3⟩)
      | (go_at_call 14; (with_reducible refine (own_on w _ C L m d b3.out HJ.out.len (HJ.out.bys.kept b3.out) HT.out).mono ?_); rintro e7 w7 ⟨A7, c7, rfl, r7, k7, b7⟩)
      | (go_at_call 13; (with_reducible refine (decode_on w _ A7 L m c7 f HD.out b7.out (r7.out.in_n HJ.out.byt HJ.out.len) (by have := HT.out; omega)).mono ?_); rintro e8 w8 ⟨A8, c8, z, g, rfl, r8, k8, b8⟩)
      | (go_at_call 10; (with_reducible refine (parts_any A8 g z c8 _ r8.out.len r8.out.row.lies (by have := gotten_len HD.out r8.out; omega)).mono ?_); rintro e9 w9 ⟨A9, c9, rfl, r9', k9'⟩; rw [r8.out.len]; have r9 := Lib.hid r9'; have b9 := Lib.hid (below_then b8.out k9'); clear r9' k9')
      | (go_at_call 9; (with_reducible refine (encode_on w _ A9 g z c9 (L, 0) (gotten_enc HJ.out.byt HD.out HF.out r8.out) m HJ.out.len b9.out r8.out.len (by have := gotten_len HD.out r8.out; have := r8.out.len; omega) r9.out.lies r8.out.ok).mono ?_); rintro e10 w10 ⟨A10, c10, rfl, r10, k10, b10⟩)
      | (go_at_call 12; (with_reducible refine (same_any A10 C L m m c10 d _ HJ.out.len HJ.out.len r10.out.lies (HJ.out.bys.kept b10.out)).mono ?_); rintro e11 w11 ⟨rfl, hw⟩; subst hw))
    go_ret
    exact ⟨by simp, b10.out⟩

set_option maxRecDepth 100000 in
set_option maxHeartbeats 4000000 in
theorem back_11 (A C : Option Addr) (l : List Qt) (L : List Int) (n c m d : Nat) (p : List Int × Int) (f : List Pt × Int) (x : Nat) (w : World) (h : PIn w A l n c) (g : In w C L m d) (hm : m ≤ 140737488351232) (hp : encP (pts l) = p) (hx : p.1.length = x) (hf : decP L = f) (h1 : p.2 ≠ 0) (h2 : f.2 ≠ 0) :
    Calls Try.prog 4 #[.slice A n c, .slice C m d] w (AllTrue w) := by
    have HS : Hid (x ≤ 140737488351232) := Lib.hid (by have := encode_short l p hp; omega)
    have HY := Lib.hid (encode_byt l h.ok p hp)
    have HP := Lib.hid hp
    have HX := Lib.hid hx
    have HI := Lib.hid h
    have HJ := Lib.hid g
    have HT := Lib.hid hm
    have HD := Lib.hid hf
    have HZ := Lib.hid h1
    have HF := Lib.hid h2
    have z1 : (p.2 == 0) = false := by simpa using h1
    have z2 : (f.2 != 0) = true := by simpa using h2
    clear h hp hx g hm hf h1 h2
    go_enter Try.func4, Try.ntmps4
    go_wp2_with (first
      | (go_at_call 8; refine (wakes_any' w _ (Below.refl _ _)).mono ?_; rintro e1 w1 ⟨rfl, b1⟩)
      | (go_at_call 10; (with_reducible refine (parts_on w _ A l n c b1.out HI.out).mono ?_); rintro e2 w2 ⟨A2, c2, rfl, r2, k2, b2⟩)
      | (go_at_call 9; (with_reducible refine (encode_on w _ A2 l n c2 p HP.out x HX.out b2.out HI.out.len (by have := HI.out.size; omega) r2.out.lies HI.out.ok).mono ?_); rintro e3 w3 ⟨A3, c3, rfl, r3, k3, b3⟩)
      | (go_at_call 14; (with_reducible refine (own_on w _ C L m d b3.out HJ.out.len (HJ.out.bys.kept b3.out) HT.out).mono ?_); rintro e7 w7 ⟨A7, c7, rfl, r7, k7, b7⟩)
      | (go_at_call 13; (with_reducible refine (decode_on w _ A7 L m c7 f HD.out b7.out (r7.out.in_n HJ.out.byt HJ.out.len) (by have := HT.out; omega)).mono ?_); rintro e8 w8 ⟨A8, c8, z, g, rfl, r8, k8, b8⟩))
    go_ret
    exact ⟨by rw [← r8.out.len, pts_none HD.out HF.out r8.out]; rfl, b8.out⟩

theorem back_law (A C : Option Addr) (l : List Qt) (L : List Int) (n c m d : Nat) (w : World) (h : PIn w A l n c) (g : In w C L m d) (hm : m ≤ 140737488351232) :
    Calls Try.prog 4 #[.slice A n c, .slice C m d] w (AllTrue w) := by
  by_cases h1 : (encP (pts l)).2 = 0 <;> by_cases h2 : (decP L).2 = 0
  · exact back_00 A C l L n c m d _ _ _ w h g hm rfl rfl rfl h1 h2
  · exact back_01 A C l L n c m d _ _ _ w h g hm rfl rfl rfl h1 h2
  · exact back_10 A C l L n c m d _ _ _ w h g hm rfl rfl rfl h1 h2
  · exact back_11 A C l L n c m d _ _ _ w h g hm rfl rfl rfl h1 h2

end Go.Proofs.Ytaedhedbmbmdoaa
