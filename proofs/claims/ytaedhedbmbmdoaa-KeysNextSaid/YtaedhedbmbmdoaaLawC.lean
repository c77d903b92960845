/-
  The law KeysNext.
-/
import Derived.Test.YtaedhedbmbmdoaaLawB
namespace Go.Proofs.Ytaedhedbmbmdoaa
open Go.RowKit

theorem next_on (w0 w : World) (A : Option Addr) (L : List Int) (n c : Nat) (N : List Int) (x : Nat) (hN : nextL L = N) (hx : N.length = x) (hw : Below w0.heap.size w0 w) (h : In w A L n c) (hl : n ≤ 140737488351232) :
    Calls Try.prog 19 #[.slice A n c] w fun e w' => ∃ A' c', e = .returned (.slice A' x c') ∧ Hid (Row w' w.heap.size A' c' N) ∧ Hid (Below w.heap.size w w') ∧ Hid (Below w0.heap.size w0 w') := by
  subst hN
  subst hx
  refine (next_any A L n c w h hl).mono ?_
  rintro e w' ⟨A', c', rfl, h1, h2⟩
  exact ⟨A', c', rfl, Lib.hid h1, Lib.hid h2, Lib.hid (below_then hw h2)⟩
theorem refNext_on (w0 w : World) (A : Option Addr) (L : List Int) (n c : Nat) (N : List Int) (x : Nat) (hN : nextL L = N) (hx : N.length = x) (hw : Below w0.heap.size w0 w) (h : In w A L n c) (hl : n ≤ 140737488351232) :
    Calls Try.prog 20 #[.slice A n c] w fun e w' => ∃ A' c', e = .returned (.slice A' x c') ∧ Hid (Row w' w.heap.size A' c' N) ∧ Hid (Below w.heap.size w w') ∧ Hid (Below w0.heap.size w0 w') := by
  subst hN
  subst hx
  refine (refNext_any A L n c w h hl).mono ?_
  rintro e w' ⟨A', c', rfl, h1, h2⟩
  exact ⟨A', c', rfl, Lib.hid h1, Lib.hid h2, Lib.hid (below_then hw h2)⟩

set_option maxRecDepth 100000 in
set_option maxHeartbeats 4000000 in
theorem next_law_none (A C : Option Addr) (L M : List Int) (n c m d : Nat) (w : World) (h : In w A L n c) (h' : In w C M m d) (hl : n ≤ 140737488351232) (hm : m ≤ 140737488351232) (h0 : nextL L = []) :
    Calls Try.prog 6 #[.slice A n c, .slice C m d] w (AllTrue w) := by
  have HI := Lib.hid h
  have HJ := Lib.hid h'
  have HL := Lib.hid hl
  have H0 := Lib.hid h0
  have hcat : ¬ 9223372036854775807 < (strOfNums L).size + (strOfNums M).size := by rw [str_size, str_size, h.len, h'.len]; omega
  clear h h' hl h0
  go_enter Try.func6, Try.ntmps6
  go_wp2_with (first
    | (go_at_call 8; refine (wakes_any' w _ (Below.refl _ _)).mono ?_; rintro e1 w1 ⟨rfl, b1⟩)
    | (go_at_call 14; (with_reducible refine (own_on w _ A L n c b1.out HI.out.len (HI.out.bys.kept b1.out) HL.out).mono ?_); rintro e2 w2 ⟨A2, c2, rfl, r2, k2, b2⟩)
    | (go_at_call 19; (with_reducible refine (next_on w _ A2 L n c2 [] 0 H0.out rfl b2.out (r2.out.in_n HI.out.byt HI.out.len) HL.out).mono ?_); rintro e3 w3 ⟨A3, c3, rfl, r3, k3, b3⟩)
    | (go_at_call 20; (with_reducible refine (refNext_on w _ A L n c [] 0 H0.out rfl b3.out (HI.out.kept b3.out) HL.out).mono ?_); rintro e4 w4 ⟨A4, c4, rfl, r4, k4, b4⟩; have r3' := Lib.hid (r3.out.kept k4.out (Nat.le_refl _)))
    | (go_at_call 12; (with_reducible refine (same_any A3 A4 [] 0 0 c3 c4 _ rfl rfl r3'.out.lies r4.out.lies).mono ?_); rintro e5 w5 ⟨rfl, hw⟩; subst hw; have v1 := conv_any (HI.out.bys.kept b4.out) n c HI.out.len; have v2 := conv_any (HJ.out.bys.kept b4.out) m d HJ.out.len))
  go_ret
  exact ⟨rfl, b4.out⟩

theorem str_cat (L M : List Int) : strOfNums L ++ strOfNums M = strOfNums (L ++ M) := by
  unfold strOfNums
  apply ByteArray.ext
  simp
theorem less_over (w : World) (L M N : List Int) (hN : nextL L = N) (h0 : N ≠ []) (hL : Byt L) (hM : Byt M) (hB : Byt N) (l1 : L.length ≤ 140737488351232) (l2 : M.length ≤ 140737488351232) (l3 : N.length ≤ 140737488351232) :
    Calls Try.prog 18 #[.string (strOfNums L ++ strOfNums M), .string (strOfNums N)] w fun e w' => e = .returned (.int .i64 (-1)) ∧ ∃ k, w' = w.drewN k := by
  rw [str_cat]
  subst hN
  exact less_on w (L ++ M) (nextL L) (-1) (next_over L M h0) (hL.append hM) hB (by simp; omega) (by omega)
theorem next_byt : ∀ L : List Int, Byt L → Byt (nextL L)
  | [], _ => Byt.nil
  | x :: s, h => by
    unfold nextL
    split
    · exact Byt.cons h.head.1 h.head.2 (next_byt s h.tail)
    · split
      · exact Byt.cons (by have := h.head; omega) (by omega) Byt.nil
      · exact Byt.nil
theorem next_short : ∀ L : List Int, (nextL L).length ≤ L.length
  | [] => by simp [nextL]
  | x :: s => by
    have := next_short s
    unfold nextL
    split
    · simp; omega
    · split <;> simp

theorem conv_drew {w : World} {A : Option Addr} {L : List Int} (h : Bys w A L) (n c : Nat) (hn : L.length = n) (k : Nat) : (convert 24 9 (.slice A n c)).run Try.prog (w.drewN k) = .ok (.string (strOfNums L)) (w.drewN k) := conv_any (w := w.drewN k) h n c hn
theorem str_ne {L M : List Int} (hL : Byt L) (hM : Byt M) (h : L ≠ M) : ((strOfNums L).toList == (strOfNums M).toList) = false := by
  rw [ByteArray.toList_eq, ByteArray.toList_eq, beq_eq_false_iff_ne]
  intro k
  have := bytes_inj k
  exact h (by rw [← nums_of_str L hL, ← nums_of_str M hM, this])

set_option maxRecDepth 100000 in
set_option maxHeartbeats 8000000 in
theorem next_law_in (A C : Option Addr) (L M N : List Int) (n c m d x : Nat) (w : World) (h : In w A L n c) (h' : In w C M m d) (hl : n ≤ 140737488351232) (hm : m ≤ 140737488351232) (hN : nextL L = N) (h0 : N ≠ []) (hx : N.length = x) (z : Int) (hz : cmpL M N = z) (hp : n ≤ m) (ht : M.take n = L) :
    Calls Try.prog 6 #[.slice A n c, .slice C m d] w (AllTrue w) := by
  have HI := Lib.hid h
  have HJ := Lib.hid h'
  have HL := Lib.hid hl
  have HM := Lib.hid hm
  have HN := Lib.hid hN
  have H0 := Lib.hid h0
  have HX := Lib.hid hx
  have HZ := Lib.hid hz
  have HB : Hid (Byt N) := Lib.hid (by rw [← hN]; exact next_byt L h.byt)
  have HS : Hid (N.length ≤ 140737488351232) := Lib.hid (by have := next_short L; rw [hN, h.len] at this; omega)
  have hcat : ¬ 9223372036854775807 < (strOfNums L).size + (strOfNums M).size := by rw [str_size, str_size, h.len, h'.len]; omega
  have x0 : ((x : Int) == 0) = false := by
    have : x ≠ 0 := fun e => h0 (List.eq_nil_of_length_eq_zero (by omega))
    simpa using this
  have hpi : decide ((n : Int) ≤ m) = true := by simp; omega
  have hpj : decide (n ≤ m) = true := by simp; omega
  have hpd : (n : Int) ≤ d := by have := h'.cap; omega
  have HQ := Lib.hid (slice_high h'.bys m n d h'.len hp h'.cap).2
  have HQN : Hid ((M.take n).length = n) := Lib.hid (by have := h'.len; simp; omega)
  rw [ht] at HQ HQN
  clear h h' hl hN h0 hx hz hm ht
  go_enter Try.func6, Try.ntmps6
  go_upto_region 9 with (first
    | (go_at_call 8; refine (wakes_any' w _ (Below.refl _ _)).mono ?_; rintro e1 w1 ⟨rfl, b1⟩)
    | (go_at_call 14; (with_reducible refine (own_on w _ A L n c b1.out HI.out.len (HI.out.bys.kept b1.out) HL.out).mono ?_); rintro e2 w2 ⟨A2, c2, rfl, r2, k2, b2⟩)
    | (go_at_call 19; (with_reducible refine (next_on w _ A2 L n c2 N x HN.out HX.out b2.out (r2.out.in_n HI.out.byt HI.out.len) HL.out).mono ?_); rintro e3 w3 ⟨A3, c3, rfl, r3, k3, b3⟩)
    | (go_at_call 20; (with_reducible refine (refNext_on w _ A L n c N x HN.out HX.out b3.out (HI.out.kept b3.out) HL.out).mono ?_); rintro e4 w4 ⟨A4, c4, rfl, r4, k4, b4⟩; have r3' := Lib.hid (r3.out.kept k4.out (Nat.le_refl _)))
    | (go_at_call 12; (with_reducible refine (same_any A3 A4 N x x c3 c4 _ HX.out HX.out r3'.out.lies r4.out.lies).mono ?_); rintro e5 w5 ⟨rfl, hw⟩; subst hw; have v1 := conv_any (HI.out.bys.kept b4.out) n c HI.out.len; have v2 := conv_any (HJ.out.bys.kept b4.out) m d HJ.out.len))
  clear v1 v2 r2 r4 k2 k3 k4 b1 b2 b3
  have v1 := fun k => conv_drew (HI.out.bys.kept b4.out) n c HI.out.len k
  have v2 := fun k => conv_drew (HJ.out.bys.kept b4.out) m d HJ.out.len k
  have v3 := fun k => conv_drew r3'.out.lies x c3 HX.out k
  have v4 := fun k => conv_drew (HQ.out.kept b4.out) n d HQN.out k
  go_quiet (fail)
  have BD : Hid (∀ k, Below w.heap.size w (w4.drewN k)) := Lib.hid (fun k => below_drew b4.out k)
  go_wp2_with (first
    | (go_at_call 18; (with_reducible refine (less_on _ M N z HZ.out HJ.out.byt HB.out (by have := HJ.out.len; have := HM.out; omega) (by have := HS.out; omega)).mono ?_); rintro e6 w6 ⟨rfl, k6, hw⟩; rw [World.drewN_drewN] at hw; subst hw)
    | (go_at_call 18; (with_reducible refine (less_over _ L M N HN.out H0.out HI.out.byt HJ.out.byt HB.out (by have := HI.out.len; have := HL.out; omega) (by have := HJ.out.len; have := HM.out; omega) (by have := HS.out; omega)).mono ?_); rintro e7 w7 ⟨rfl, k7, hw⟩; rw [World.drewN_drewN] at hw; subst hw))
  go_ret
  exact ⟨by simp, BD.out _⟩

set_option maxRecDepth 100000 in
set_option maxHeartbeats 8000000 in
theorem next_law_short (A C : Option Addr) (L M N : List Int) (n c m d x : Nat) (w : World) (h : In w A L n c) (h' : In w C M m d) (hl : n ≤ 140737488351232) (hm : m ≤ 140737488351232) (hN : nextL L = N) (h0 : N ≠ []) (hx : N.length = x) (z : Int) (hz : cmpL M N = z) (hp : m < n) (y : Int) (hy : cmpL M L = y) (hd : y < 0 ∨ 0 ≤ z) :
    Calls Try.prog 6 #[.slice A n c, .slice C m d] w (AllTrue w) := by
  have HI := Lib.hid h
  have HJ := Lib.hid h'
  have HL := Lib.hid hl
  have HM := Lib.hid hm
  have HN := Lib.hid hN
  have H0 := Lib.hid h0
  have HX := Lib.hid hx
  have HZ := Lib.hid hz
  have HB : Hid (Byt N) := Lib.hid (by rw [← hN]; exact next_byt L h.byt)
  have HS : Hid (N.length ≤ 140737488351232) := Lib.hid (by have := next_short L; rw [hN, h.len] at this; omega)
  have hcat : ¬ 9223372036854775807 < (strOfNums L).size + (strOfNums M).size := by rw [str_size, str_size, h.len, h'.len]; omega
  have x0 : ((x : Int) == 0) = false := by
    have : x ≠ 0 := fun e => h0 (List.eq_nil_of_length_eq_zero (by omega))
    simpa using this
  have hpi : decide ((n : Int) ≤ m) = false := by simp; omega
  have hpj : decide (n ≤ m) = false := by simp; omega
  have HY := Lib.hid hy
  clear h h' hl hN h0 hx hz hm hp hy
  go_enter Try.func6, Try.ntmps6
  go_upto_region 9 with (first
    | (go_at_call 8; refine (wakes_any' w _ (Below.refl _ _)).mono ?_; rintro e1 w1 ⟨rfl, b1⟩)
    | (go_at_call 14; (with_reducible refine (own_on w _ A L n c b1.out HI.out.len (HI.out.bys.kept b1.out) HL.out).mono ?_); rintro e2 w2 ⟨A2, c2, rfl, r2, k2, b2⟩)
    | (go_at_call 19; (with_reducible refine (next_on w _ A2 L n c2 N x HN.out HX.out b2.out (r2.out.in_n HI.out.byt HI.out.len) HL.out).mono ?_); rintro e3 w3 ⟨A3, c3, rfl, r3, k3, b3⟩)
    | (go_at_call 20; (with_reducible refine (refNext_on w _ A L n c N x HN.out HX.out b3.out (HI.out.kept b3.out) HL.out).mono ?_); rintro e4 w4 ⟨A4, c4, rfl, r4, k4, b4⟩; have r3' := Lib.hid (r3.out.kept k4.out (Nat.le_refl _)))
    | (go_at_call 12; (with_reducible refine (same_any A3 A4 N x x c3 c4 _ HX.out HX.out r3'.out.lies r4.out.lies).mono ?_); rintro e5 w5 ⟨rfl, hw⟩; subst hw; have v1 := conv_any (HI.out.bys.kept b4.out) n c HI.out.len; have v2 := conv_any (HJ.out.bys.kept b4.out) m d HJ.out.len))
  clear v1 v2 r2 r4 k2 k3 k4 b1 b2 b3
  have v1 := fun k => conv_drew (HI.out.bys.kept b4.out) n c HI.out.len k
  have v2 := fun k => conv_drew (HJ.out.bys.kept b4.out) m d HJ.out.len k
  have v3 := fun k => conv_drew r3'.out.lies x c3 HX.out k
  go_quiet (fail)
  have BD : Hid (∀ k, Below w.heap.size w (w4.drewN k)) := Lib.hid (fun k => below_drew b4.out k)
  rcases hd with hd | hd
  · have d1 : decide (y < 0) = true := by simpa using hd
    clear hd
    go_wp2_with (first
    | (go_at_call 18; (with_reducible refine (less_on _ M N z HZ.out HJ.out.byt HB.out (by have := HJ.out.len; have := HM.out; omega) (by have := HS.out; omega)).mono ?_); rintro e6 w6 ⟨rfl, k6, hw⟩; rw [World.drewN_drewN] at hw; subst hw)
    | (go_at_call 18; (with_reducible refine (less_over _ L M N HN.out H0.out HI.out.byt HJ.out.byt HB.out (by have := HI.out.len; have := HL.out; omega) (by have := HJ.out.len; have := HM.out; omega) (by have := HS.out; omega)).mono ?_); rintro e7 w7 ⟨rfl, k7, hw⟩; rw [World.drewN_drewN] at hw; subst hw)
    | (go_at_call 18; (with_reducible refine (less_on _ M L y HY.out HJ.out.byt HI.out.byt (by have := HJ.out.len; have := HM.out; omega) (by have := HI.out.len; have := HL.out; omega)).mono ?_); rintro e8 w8 ⟨rfl, k8, hw⟩; rw [World.drewN_drewN] at hw; subst hw))
    go_ret
    exact ⟨by simp, BD.out _⟩
  · have d1 : decide (0 ≤ z) = true := by simpa using hd
    by_cases hy : y < 0
    · have d2 : decide (y < 0) = true := by simpa using hy
      clear hd hy
      go_wp2_with (first
      | (go_at_call 18; (with_reducible refine (less_on _ M N z HZ.out HJ.out.byt HB.out (by have := HJ.out.len; have := HM.out; omega) (by have := HS.out; omega)).mono ?_); rintro e6 w6 ⟨rfl, k6, hw⟩; rw [World.drewN_drewN] at hw; subst hw)
      | (go_at_call 18; (with_reducible refine (less_over _ L M N HN.out H0.out HI.out.byt HJ.out.byt HB.out (by have := HI.out.len; have := HL.out; omega) (by have := HJ.out.len; have := HM.out; omega) (by have := HS.out; omega)).mono ?_); rintro e7 w7 ⟨rfl, k7, hw⟩; rw [World.drewN_drewN] at hw; subst hw)
      | (go_at_call 18; (with_reducible refine (less_on _ M L y HY.out HJ.out.byt HI.out.byt (by have := HJ.out.len; have := HM.out; omega) (by have := HI.out.len; have := HL.out; omega)).mono ?_); rintro e8 w8 ⟨rfl, k8, hw⟩; rw [World.drewN_drewN] at hw; subst hw))
      go_ret
      exact ⟨by simp, BD.out _⟩
    · have d2 : decide (y < 0) = false := by simpa using hy
      clear hd hy
      go_wp2_with (first
      | (go_at_call 18; (with_reducible refine (less_on _ M N z HZ.out HJ.out.byt HB.out (by have := HJ.out.len; have := HM.out; omega) (by have := HS.out; omega)).mono ?_); rintro e6 w6 ⟨rfl, k6, hw⟩; rw [World.drewN_drewN] at hw; subst hw)
      | (go_at_call 18; (with_reducible refine (less_over _ L M N HN.out H0.out HI.out.byt HJ.out.byt HB.out (by have := HI.out.len; have := HL.out; omega) (by have := HJ.out.len; have := HM.out; omega) (by have := HS.out; omega)).mono ?_); rintro e7 w7 ⟨rfl, k7, hw⟩; rw [World.drewN_drewN] at hw; subst hw)
      | (go_at_call 18; (with_reducible refine (less_on _ M L y HY.out HJ.out.byt HI.out.byt (by have := HJ.out.len; have := HM.out; omega) (by have := HI.out.len; have := HL.out; omega)).mono ?_); rintro e8 w8 ⟨rfl, k8, hw⟩; rw [World.drewN_drewN] at hw; subst hw))
      go_ret
      exact ⟨by simp, BD.out _⟩

set_option maxRecDepth 100000 in
set_option maxHeartbeats 8000000 in
theorem next_law_other (A C : Option Addr) (L M N : List Int) (n c m d x : Nat) (w : World) (h : In w A L n c) (h' : In w C M m d) (hl : n ≤ 140737488351232) (hm : m ≤ 140737488351232) (hN : nextL L = N) (h0 : N ≠ []) (hx : N.length = x) (z : Int) (hz : cmpL M N = z) (hp : n ≤ m) (ht : M.take n ≠ L) (y : Int) (hy : cmpL M L = y) (hd : y < 0 ∨ 0 ≤ z) :
    Calls Try.prog 6 #[.slice A n c, .slice C m d] w (AllTrue w) := by
  have HI := Lib.hid h
  have HJ := Lib.hid h'
  have HL := Lib.hid hl
  have HM := Lib.hid hm
  have HN := Lib.hid hN
  have H0 := Lib.hid h0
  have HX := Lib.hid hx
  have HZ := Lib.hid hz
  have HB : Hid (Byt N) := Lib.hid (by rw [← hN]; exact next_byt L h.byt)
  have HS : Hid (N.length ≤ 140737488351232) := Lib.hid (by have := next_short L; rw [hN, h.len] at this; omega)
  have hcat : ¬ 9223372036854775807 < (strOfNums L).size + (strOfNums M).size := by rw [str_size, str_size, h.len, h'.len]; omega
  have x0 : ((x : Int) == 0) = false := by
    have : x ≠ 0 := fun e => h0 (List.eq_nil_of_length_eq_zero (by omega))
    simpa using this
  have hpi : decide ((n : Int) ≤ m) = true := by simp; omega
  have hpj : decide (n ≤ m) = true := by simp; omega
  have hpd : (n : Int) ≤ d := by have := h'.cap; omega
  have HQ := Lib.hid (slice_high h'.bys m n d h'.len hp h'.cap).2
  have HQN : Hid ((M.take n).length = n) := Lib.hid (by have := h'.len; simp; omega)
  have hne := str_ne (h'.byt.take n) h.byt ht
  have HY := Lib.hid hy
  clear h h' hl hN h0 hx hz hm hp hy ht
  go_enter Try.func6, Try.ntmps6
  go_upto_region 9 with (first
    | (go_at_call 8; refine (wakes_any' w _ (Below.refl _ _)).mono ?_; rintro e1 w1 ⟨rfl, b1⟩)
    | (go_at_call 14; (with_reducible refine (own_on w _ A L n c b1.out HI.out.len (HI.out.bys.kept b1.out) HL.out).mono ?_); rintro e2 w2 ⟨A2, c2, rfl, r2, k2, b2⟩)
    | (go_at_call 19; (with_reducible refine (next_on w _ A2 L n c2 N x HN.out HX.out b2.out (r2.out.in_n HI.out.byt HI.out.len) HL.out).mono ?_); rintro e3 w3 ⟨A3, c3, rfl, r3, k3, b3⟩)
    | (go_at_call 20; (with_reducible refine (refNext_on w _ A L n c N x HN.out HX.out b3.out (HI.out.kept b3.out) HL.out).mono ?_); rintro e4 w4 ⟨A4, c4, rfl, r4, k4, b4⟩; have r3' := Lib.hid (r3.out.kept k4.out (Nat.le_refl _)))
    | (go_at_call 12; (with_reducible refine (same_any A3 A4 N x x c3 c4 _ HX.out HX.out r3'.out.lies r4.out.lies).mono ?_); rintro e5 w5 ⟨rfl, hw⟩; subst hw; have v1 := conv_any (HI.out.bys.kept b4.out) n c HI.out.len; have v2 := conv_any (HJ.out.bys.kept b4.out) m d HJ.out.len))
  clear v1 v2 r2 r4 k2 k3 k4 b1 b2 b3
  have v1 := fun k => conv_drew (HI.out.bys.kept b4.out) n c HI.out.len k
  have v2 := fun k => conv_drew (HJ.out.bys.kept b4.out) m d HJ.out.len k
  have v3 := fun k => conv_drew r3'.out.lies x c3 HX.out k
  have v4 := fun k => conv_drew (HQ.out.kept b4.out) n d HQN.out k
  go_quiet (fail)
  have BD : Hid (∀ k, Below w.heap.size w (w4.drewN k)) := Lib.hid (fun k => below_drew b4.out k)
  rcases hd with hd | hd
  · have d1 : decide (y < 0) = true := by simpa using hd
    clear hd
    go_wp2_with (first
    | (go_at_call 18; (with_reducible refine (less_on _ M N z HZ.out HJ.out.byt HB.out (by have := HJ.out.len; have := HM.out; omega) (by have := HS.out; omega)).mono ?_); rintro e6 w6 ⟨rfl, k6, hw⟩; rw [World.drewN_drewN] at hw; subst hw)
    | (go_at_call 18; (with_reducible refine (less_over _ L M N HN.out H0.out HI.out.byt HJ.out.byt HB.out (by have := HI.out.len; have := HL.out; omega) (by have := HJ.out.len; have := HM.out; omega) (by have := HS.out; omega)).mono ?_); rintro e7 w7 ⟨rfl, k7, hw⟩; rw [World.drewN_drewN] at hw; subst hw)
    | (go_at_call 18; (with_reducible refine (less_on _ M L y HY.out HJ.out.byt HI.out.byt (by have := HJ.out.len; have := HM.out; omega) (by have := HI.out.len; have := HL.out; omega)).mono ?_); rintro e8 w8 ⟨rfl, k8, hw⟩; rw [World.drewN_drewN] at hw; subst hw))
    go_ret
    exact ⟨by simp, BD.out _⟩
  · have d1 : decide (0 ≤ z) = true := by simpa using hd
    by_cases hy : y < 0
    · have d2 : decide (y < 0) = true := by simpa using hy
      clear hd hy
      go_wp2_with (first
      | (go_at_call 18; (with_reducible refine (less_on _ M N z HZ.out HJ.out.byt HB.out (by have := HJ.out.len; have := HM.out; omega) (by have := HS.out; omega)).mono ?_); rintro e6 w6 ⟨rfl, k6, hw⟩; rw [World.drewN_drewN] at hw; subst hw)
      | (go_at_call 18; (with_reducible refine (less_over _ L M N HN.out H0.out HI.out.byt HJ.out.byt HB.out (by have := HI.out.len; have := HL.out; omega) (by have := HJ.out.len; have := HM.out; omega) (by have := HS.out; omega)).mono ?_); rintro e7 w7 ⟨rfl, k7, hw⟩; rw [World.drewN_drewN] at hw; subst hw)
      | (go_at_call 18; (with_reducible refine (less_on _ M L y HY.out HJ.out.byt HI.out.byt (by have := HJ.out.len; have := HM.out; omega) (by have := HI.out.len; have := HL.out; omega)).mono ?_); rintro e8 w8 ⟨rfl, k8, hw⟩; rw [World.drewN_drewN] at hw; subst hw))
      go_ret
      exact ⟨by simp, BD.out _⟩
    · have d2 : decide (y < 0) = false := by simpa using hy
      clear hd hy
      go_wp2_with (first
      | (go_at_call 18; (with_reducible refine (less_on _ M N z HZ.out HJ.out.byt HB.out (by have := HJ.out.len; have := HM.out; omega) (by have := HS.out; omega)).mono ?_); rintro e6 w6 ⟨rfl, k6, hw⟩; rw [World.drewN_drewN] at hw; subst hw)
      | (go_at_call 18; (with_reducible refine (less_over _ L M N HN.out H0.out HI.out.byt HJ.out.byt HB.out (by have := HI.out.len; have := HL.out; omega) (by have := HJ.out.len; have := HM.out; omega) (by have := HS.out; omega)).mono ?_); rintro e7 w7 ⟨rfl, k7, hw⟩; rw [World.drewN_drewN] at hw; subst hw)
      | (go_at_call 18; (with_reducible refine (less_on _ M L y HY.out HJ.out.byt HI.out.byt (by have := HJ.out.len; have := HM.out; omega) (by have := HI.out.len; have := HL.out; omega)).mono ?_); rintro e8 w8 ⟨rfl, k8, hw⟩; rw [World.drewN_drewN] at hw; subst hw))
      go_ret
      exact ⟨by simp, BD.out _⟩

theorem next_law (A C : Option Addr) (L M : List Int) (n c m d : Nat) (w : World) (h : In w A L n c) (h' : In w C M m d) (hl : n ≤ 140737488351232) (hm : m ≤ 140737488351232) :
    Calls Try.prog 6 #[.slice A n c, .slice C m d] w (AllTrue w) := by
  by_cases h0 : nextL L = []
  · exact next_law_none A C L M n c m d w h h' hl hm h0
  · have key : ¬ L <+: M → cmpL M L < 0 ∨ 0 ≤ cmpL M (nextL L) := fun k => by
      by_cases g : cmpL M L < 0
      · exact .inl g
      · exact .inr (next_least L M h.byt h'.byt h0 k (by omega))
    by_cases hp : n ≤ m
    · by_cases ht : M.take n = L
      · exact next_law_in A C L M _ n c m d _ w h h' hl hm rfl h0 rfl _ rfl hp ht
      · refine next_law_other A C L M _ n c m d _ w h h' hl hm rfl h0 rfl _ rfl hp ht _ rfl (key fun k => ht ?_)
        rw [← h.len]
        exact (List.prefix_iff_eq_take.1 k).symm
    · refine next_law_short A C L M _ n c m d _ w h h' hl hm rfl h0 rfl _ rfl (by omega) _ rfl (key fun k => ?_)
      have := k.length_le
      rw [h.len, h'.len] at this
      omega

end Go.Proofs.Ytaedhedbmbmdoaa
