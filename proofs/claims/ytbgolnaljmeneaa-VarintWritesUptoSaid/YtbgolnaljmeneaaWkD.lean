/-
  Walks: what is appended, by the program.
-/
import Derived.Test.YtbgolnaljmeneaaWkC
namespace Go.Proofs.Ytbgolnaljmeneaa
open Go.RowKit

theorem pieces_two {w : World} {A C : Option Addr} {L M : List Int} {n m c d : Nat} (hn : L.length = n) (hm : M.length = m) (h : Bys w A L) (k : Bys w C M) :
    Pieces (w.alloc (.cells #[.slice A n c, .slice C m d] 22)) w.heap.size [L, M] := fun i X hi => by
  subst hn
  subst hm
  match i, hi with
  | 0, hi =>
    obtain rfl : L = X := by simpa using hi
    exact ⟨A, c, cell_of_row _ _ 0 _ _ _ (heap_alloc_new w _), h.alloc _⟩
  | 1, hi =>
    obtain rfl : M = X := by simpa using hi
    exact ⟨C, d, cell_of_row _ _ 1 _ _ _ (heap_alloc_new w _), k.alloc _⟩
  | i + 2, hi => simp at hi
theorem pieces_three {w : World} {A C E : Option Addr} {L M N : List Int} {n m k c d f : Nat} (hn : L.length = n) (hm : M.length = m) (hk : N.length = k) (h : Bys w A L) (g : Bys w C M) (j : Bys w E N) :
    Pieces (w.alloc (.cells #[.slice A n c, .slice C m d, .slice E k f] 22)) w.heap.size [L, M, N] := fun i X hi => by
  subst hn
  subst hm
  subst hk
  match i, hi with
  | 0, hi =>
    obtain rfl : L = X := by simpa using hi
    exact ⟨A, c, cell_of_row _ _ 0 _ _ _ (heap_alloc_new w _), h.alloc _⟩
  | 1, hi =>
    obtain rfl : M = X := by simpa using hi
    exact ⟨C, d, cell_of_row _ _ 1 _ _ _ (heap_alloc_new w _), g.alloc _⟩
  | 2, hi =>
    obtain rfl : N = X := by simpa using hi
    exact ⟨E, f, cell_of_row _ _ 2 _ _ _ (heap_alloc_new w _), j.alloc _⟩
  | i + 3, hi => simp at hi
theorem pieces_one {w : World} {A : Option Addr} {L : List Int} {n c : Nat} (hn : L.length = n) (h : Bys w A L) :
    Pieces (w.alloc (.cells #[.slice A n c] 22)) w.heap.size [L] := fun i X hi => by
  subst hn
  match i, hi with
  | 0, hi =>
    obtain rfl : L = X := by simpa using hi
    exact ⟨A, c, cell_of_row _ _ 0 _ _ _ (heap_alloc_new w _), h.alloc _⟩
  | i + 1, hi => simp at hi
/-- What a call answers behind an allocation of its caller. -/
theorem New.later {w w1 w2 : World} {L M : List Int} {e : Ending} {o : Obj} (h : New (w1.alloc o) L e w2) (hb : Below w.heap.size w w1) (he : L = M) : New w M e w2 := by
  subst he
  obtain ⟨g, c, rfl, h1, h2⟩ := h
  have hs : w.heap.size ≤ (w1.alloc o).heap.size := by have := hb.size; rw [World.size_alloc]; omega
  exact ⟨g, c, rfl, h1.mono hs, (hb.alloc hb.size o).trans (h2.mono hs)⟩

set_option maxRecDepth 100000 in
theorem appendUint_any (A : Option Addr) (L : List Int) (n c : Nat) (v : Int) (w : World) (hn : L.length = n) (h : Bys w A L) (h0 : 0 ≤ v) (h1 : v ≤ 18446744073709551615) (hl : L.length + (digs v).length ≤ 281474976710656) :
    Calls Try.prog 10 #[.slice A n c, .int .u64 v] w (New w (L ++ digs v)) := by
  have HB := Lib.hid h
  have HN := Lib.hid hn
  have HL := Lib.hid hl
  have HF := Lib.hid (fun w => form_any v w h0 h1)
  clear h hn hl h0 h1
  go_enter Try.func10, Try.ntmps10
  go_wp2_with (first
    | (go_at_call 24; refine (HF.out _).mono ?_; rintro e w1 ⟨g1, rfl, f1, b1⟩; have P1 := Lib.hid (pieces_two (c := c) (d := (digs v).length) HN.out rfl (HB.out.kept b1) f1); have B1 := Lib.hid b1; clear f1 b1)
    | (go_at_call 23; refine (joined_any _ 2 _ [L, digs v] _ rfl (by omega) P1.out (by simpa using HL.out)).mono ?_; rintro e w2 hw; have hw' := hw.later (M := L ++ digs v) B1.out (by simp); obtain ⟨g2, c2, rfl, m2, b2⟩ := hw'; have M2 := Lib.hid m2; have B2 := Lib.hid b2; clear hw m2 b2))
  go_ret
  exact ⟨g2, c2, by simp, M2.out, B2.out⟩

set_option maxRecDepth 100000 in
theorem appendInt_any (A : Option Addr) (L : List Int) (n c : Nat) (v : Int) (w : World) (hn : L.length = n) (h : Bys w A L) (h0 : -9223372036854775808 ≤ v) (h1 : v ≤ 9223372036854775807) (hl : L.length + (digs (zig v)).length ≤ 281474976710656) :
    Calls Try.prog 13 #[.slice A n c, .int .i64 v] w (New w (L ++ digs (zig v))) := by
  have HB := Lib.hid h
  have HN := Lib.hid hn
  have HL := Lib.hid hl
  have HZ := Lib.hid (fun w => folded_any v w h0 h1)
  have HF := Lib.hid (fun w => form_any (zig v) w (zig_bd v h0 h1).1 (zig_bd v h0 h1).2)
  clear h hn hl h0 h1
  generalize zig v = z at HL HZ HF ⊢
  go_enter Try.func13, Try.ntmps13
  go_wp2_with (first
    | (go_at_call 26; refine (HZ.out _).mono ?_; rintro e w0 ⟨rfl, rfl⟩)
    | (go_at_call 24; refine (HF.out _).mono ?_; rintro e w1 ⟨g1, rfl, f1, b1⟩; have P1 := Lib.hid (pieces_two (c := c) (d := (digs z).length) HN.out rfl (HB.out.kept b1) f1); have B1 := Lib.hid b1; clear f1 b1)
    | (go_at_call 23; refine (joined_any _ 2 _ [L, digs z] _ rfl (by omega) P1.out (by simpa using HL.out)).mono ?_; rintro e w2 hw; have hw' := hw.later (M := L ++ digs z) B1.out (by simp); obtain ⟨g2, c2, rfl, m2, b2⟩ := hw'; have M2 := Lib.hid m2; have B2 := Lib.hid b2; clear hw m2 b2))
  go_ret
  exact ⟨g2, c2, by simp, M2.out, B2.out⟩

set_option maxRecDepth 100000 in
theorem appendBytes_any (A C : Option Addr) (L X : List Int) (n c m d : Nat) (w : World) (hn : L.length = n) (hm : X.length = m) (h : Bys w A L) (k : Bys w C X) (hl : L.length + (digs m).length + X.length ≤ 281474976710656) :
    Calls Try.prog 15 #[.slice A n c, .slice C m d] w (New w (L ++ (digs m ++ X))) := by
  have HB := Lib.hid h
  have HK := Lib.hid k
  have HN := Lib.hid hn
  have HM := Lib.hid hm
  have HL := Lib.hid hl
  have HF := Lib.hid (fun w => form_any (m : Int) w (by omega) (by omega))
  have e1 : IntKind.u64.wrap (m : Int) = m := by rw [IntKind.wrap_u64]; omega
  clear h k hn hm hl
  go_enter Try.func15, Try.ntmps15
  go_wp2_with (first
    | (go_at_call 24; refine (HF.out _).mono ?_; rintro e w1 ⟨g1, rfl, f1, b1⟩; have P1 := Lib.hid (pieces_three (c := c) (d := (digs m).length) (f := d) HN.out rfl HM.out (HB.out.kept b1) f1 (HK.out.kept b1)); have B1 := Lib.hid b1; clear f1 b1)
    | (go_at_call 23; refine (joined_any _ 3 _ [L, digs m, X] _ rfl (by omega) P1.out (by have := HL.out; simp; omega)).mono ?_; rintro e w2 hw; have hw' := hw.later (M := L ++ (digs m ++ X)) B1.out (by simp); obtain ⟨g2, c2, rfl, m2, b2⟩ := hw'; have M2 := Lib.hid m2; have B2 := Lib.hid b2; clear hw m2 b2))
  go_ret
  exact ⟨g2, c2, by simp, M2.out, B2.out⟩

end Go.Proofs.Ytbgolnaljmeneaa
