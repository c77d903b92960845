/-
  The law KeysOrder.
-/
import Derived.Test.YtaedhedbmbmdoaaLawA
namespace Go.Proofs.Ytaedhedbmbmdoaa
open Go.RowKit

theorem cmpI_flip (a b : Int) : cmpI b a = -cmpI a b := by
  rcases Int.lt_trichotomy a b with h | rfl | h
  · rw [cmpI_lt h, cmpI_gt h]; rfl
  · rw [cmpI_self]; rfl
  · rw [cmpI_gt h, cmpI_lt h]
theorem cmpP_flip (p q : Pt) : cmpP q p = -cmpP p q := by
  obtain ⟨t, a, s⟩ := p
  obtain ⟨u, b, r⟩ := q
  cases t <;> cases u
  · exact cmpI_flip a b
  · rfl
  · rfl
  · exact cmpL_flip s r
theorem cmpR_flip : ∀ ps qs : List Pt, cmpR qs ps = -cmpR ps qs
  | [], [] => rfl
  | [], _ :: _ => rfl
  | _ :: _, [] => rfl
  | p :: ps, q :: qs => by
    rw [cmpR, cmpR, cmpP_flip p q, cmpR_flip ps qs]
    by_cases h : cmpP p q = 0
    · rw [h, if_neg (by simp), if_neg (by simp)]
    · rw [if_pos (by omega), if_pos h]
theorem cmpR_three : ∀ ps qs : List Pt, -1 ≤ cmpR ps qs ∧ cmpR ps qs ≤ 1
  | [], [] => by decide
  | [], _ :: _ => ⟨by simp [cmpR], by simp [cmpR]⟩
  | _ :: _, [] => ⟨by simp [cmpR], by simp [cmpR]⟩
  | p :: ps, q :: qs => by
    rw [cmpR]
    split
    · rcases cmpP_three p q with h | h | h <;> rw [h] <;> decide
    · exact cmpR_three ps qs
theorem compare_on (w0 w : World) (A C : Option Addr) (a b : List Qt) (n m c d : Nat) (R : Int) (hR : cmpR (pts a) (pts b) = R) (hw : Below w0.heap.size w0 w) (hn : a.length = n) (hm : b.length = m) (hc : n ≤ 140737488351232) (hd : m ≤ 140737488351232) (ha : Pts w A a) (hb : Pts w C b) :
    Calls Try.prog 16 #[.slice A n c, .slice C m d] w fun e w' => e = .returned (.int .i64 R) ∧ Hid (Below w.heap.size w w') ∧ Hid (Below w0.heap.size w0 w') := by
  subst hR
  exact (compare_any A C a b n m c d w hn hm hc hd ha hb).mono fun _ _ ⟨h1, h2⟩ => ⟨h1, Lib.hid h2, Lib.hid (below_then hw h2)⟩
theorem refCompare_on (w0 w : World) (A C : Option Addr) (a b : List Qt) (n m c d : Nat) (R : Int) (hR : cmpR (pts a) (pts b) = R) (hw : Below w0.heap.size w0 w) (ha : PIn w0 A a n c) (hb : PIn w0 C b m d) :
    Calls Try.prog 17 #[.slice A n c, .slice C m d] w fun e w' => e = .returned (.int .i64 R) ∧ Hid (Below w0.heap.size w0 w') := by
  subst hR
  refine (refCompare_any A C a b n m c d w ha.len hb.len (by have := ha.size; omega) (by have := hb.size; omega) (ha.pts.kept hw) (hb.pts.kept hw) ha.ok hb.ok).mono ?_
  rintro e w' ⟨rfl, k, rfl⟩
  exact ⟨rfl, Lib.hid (below_drew hw k)⟩
theorem less_on (w : World) (L M : List Int) (R : Int) (h : cmpL L M = R) (hL : Byt L) (hM : Byt M) (l1 : L.length ≤ 281474976710656) (l2 : M.length ≤ 281474976710656) :
    Calls Try.prog 18 #[.string (strOfNums L), .string (strOfNums M)] w fun e w' => e = .returned (.int .i64 R) ∧ ∃ k, w' = w.drewN k := by
  have := less_any (strOfNums L) (strOfNums M) w (by rw [str_size]; exact l1) (by rw [str_size]; exact l2)
  rw [nums_of_str L hL, nums_of_str M hM, h] at this
  exact this
theorem enc_order (a b : List Qt) (oa : ∀ q ∈ a, q.Ok) (ob : ∀ q ∈ b, q.Ok) (p q : List Int × Int) (hp : encP (pts a) = p) (hq : encP (pts b) = q) (h1 : p.2 = 0) (h2 : q.2 = 0) : cmpL p.1 q.1 = cmpR (pts a) (pts b) := by
  subst hp
  subst hq
  rw [(decP_encP _ (pts_fit oa) h1).1, (decP_encP _ (pts_fit ob) h2).1]
  exact enc_cmp _ _ (pts_fit oa) (pts_fit ob)

set_option maxRecDepth 100000 in
set_option maxHeartbeats 8000000 in
theorem order_ok (A C : Option Addr) (l g : List Qt) (n c m d : Nat) (p q : List Int × Int) (x y : Nat) (R : Int) (w : World) (h : PIn w A l n c) (h' : PIn w C g m d) (hp : encP (pts l) = p) (hx : p.1.length = x) (hq : encP (pts g) = q) (hy : q.1.length = y) (hR : cmpR (pts l) (pts g) = R) (h1 : p.2 = 0) (h2 : q.2 = 0) :
    Calls Try.prog 5 #[.slice A n c, .slice C m d] w (AllTrue w) := by
    have HP := Lib.hid hp
    have HX := Lib.hid hx
    have HQ := Lib.hid hq
    have HY := Lib.hid hy
    have HI := Lib.hid h
    have HJ := Lib.hid h'
    have HR := Lib.hid hR
    have HF : Hid (cmpR (pts g) (pts l) = -R) := Lib.hid (by rw [cmpR_flip, hR])
    obtain ⟨q0, q1⟩ := cmpR_three (pts l) (pts g)
    rw [hR] at q0 q1
    have z1 : (p.2 != 0) = false := by simpa using h1
    have z2 : (q.2 != 0) = false := by simpa using h2
    have HO : Hid (cmpL p.1 q.1 = R) := Lib.hid (by rw [enc_order l g h.ok h'.ok p q hp hq h1 h2, hR])
    have YP := Lib.hid (encode_byt l h.ok p hp)
    have YQ := Lib.hid (encode_byt g h'.ok q hq)
    clear h hp hx h' hq hy hR h1 h2
    go_enter Try.func5, Try.ntmps5
    go_wp2_with (first
      | (go_at_call 8; refine (wakes_any' w _ (Below.refl _ _)).mono ?_; rintro e1 w1 ⟨rfl, b1⟩)
      | (go_at_call 10; (with_reducible refine (parts_on w _ A l n c b1.out HI.out).mono ?_); rintro e2 w2 ⟨A2, c2, rfl, r2, k2, b2⟩)
      | (go_at_call 10; (with_reducible refine (parts_on w _ C g m d b2.out HJ.out).mono ?_); rintro e3 w3 ⟨A3, c3, rfl, r3, k3, b3⟩; have r2' := Lib.hid (r2.out.kept k3.out (Nat.le_refl _)))
      | (go_at_call 16; (with_reducible refine (compare_on w _ A2 A3 l g n m c2 c3 R HR.out b3.out HI.out.len HJ.out.len (by have := HI.out.size; omega) (by have := HJ.out.size; omega) r2'.out.lies r3.out.lies).mono ?_); rintro e4 w4 ⟨rfl, k4, b4⟩)
      | (go_at_call 17; (with_reducible refine (refCompare_on w _ A C l g n m c d R HR.out b4.out HI.out HJ.out).mono ?_); rintro e5 w5 ⟨rfl, b5⟩)
      | (go_at_call 10; (with_reducible refine (parts_on w _ C g m d b5.out HJ.out).mono ?_); rintro e6 w6 ⟨A6, c6, rfl, r6, k6, b6⟩)
      | (go_at_call 10; (with_reducible refine (parts_on w _ A l n c b6.out HI.out).mono ?_); rintro e7 w7 ⟨A7, c7, rfl, r7, k7, b7⟩; have r6' := Lib.hid (r6.out.kept k7.out (Nat.le_refl _)))
      | (go_at_call 16; (with_reducible refine (compare_on w _ A6 A7 g l m n c6 c7 (-R) HF.out b7.out HJ.out.len HI.out.len (by have := HJ.out.size; omega) (by have := HI.out.size; omega) r6'.out.lies r7.out.lies).mono ?_); rintro e8 w8 ⟨rfl, k8, b8⟩)
      | (go_at_call 10; (with_reducible refine (parts_on w _ A l n c b8.out HI.out).mono ?_); rintro e9 w9 ⟨A9, c9, rfl, r9, k9, b9⟩)
      | (go_at_call 9; (with_reducible refine (encode_on w _ A9 l n c9 p HP.out x HX.out b9.out HI.out.len (by have := HI.out.size; omega) r9.out.lies HI.out.ok).mono ?_); rintro e10 w10 ⟨A10, c10, rfl, r10, k10, b10⟩)
      | (go_at_call 10; (with_reducible refine (parts_on w _ C g m d b10.out HJ.out).mono ?_); rintro e11 w11 ⟨A11, c11, rfl, r11, k11, b11⟩; have r10' := Lib.hid (r10.out.kept k11.out (Nat.le_refl _)))
      | (go_at_call 9; (with_reducible refine (encode_on w _ A11 g m c11 q HQ.out y HY.out b11.out HJ.out.len (by have := HJ.out.size; omega) r11.out.lies HJ.out.ok).mono ?_); rintro e12 w12 ⟨A12, c12, rfl, r12, k12, b12⟩; have r10'' := Lib.hid (r10'.out.kept k12.out (Nat.le_refl _)); have v1 := conv_any r10''.out.lies x c10 HX.out; have v2 := conv_any r12.out.lies y c12 HY.out)
      | (go_at_call 18; (with_reducible refine (less_on _ p.1 q.1 R HO.out YP.out YQ.out (by have := encode_short l p HP.out; omega) (by have := encode_short g q HQ.out; omega)).mono ?_); rintro e13 w13 ⟨rfl, k13, hw⟩; have b13 := Lib.hid (below_drew b12.out k13); rw [← hw] at b13; clear hw))
    go_ret
    exact ⟨by simp, b13.out⟩

set_option maxRecDepth 100000 in
set_option maxHeartbeats 8000000 in
theorem order_f (A C : Option Addr) (l g : List Qt) (n c m d : Nat) (p q : List Int × Int) (x y : Nat) (R : Int) (w : World) (h : PIn w A l n c) (h' : PIn w C g m d) (hp : encP (pts l) = p) (hx : p.1.length = x) (hq : encP (pts g) = q) (hy : q.1.length = y) (hR : cmpR (pts l) (pts g) = R) (h1 : p.2 = 0) (h2 : q.2 ≠ 0) :
    Calls Try.prog 5 #[.slice A n c, .slice C m d] w (AllTrue w) := by
    have HP := Lib.hid hp
    have HX := Lib.hid hx
    have HQ := Lib.hid hq
    have HY := Lib.hid hy
    have HI := Lib.hid h
    have HJ := Lib.hid h'
    have HR := Lib.hid hR
    have HF : Hid (cmpR (pts g) (pts l) = -R) := Lib.hid (by rw [cmpR_flip, hR])
    obtain ⟨q0, q1⟩ := cmpR_three (pts l) (pts g)
    rw [hR] at q0 q1
    have z1 : (p.2 != 0) = false := by simpa using h1
    have z2 : (q.2 != 0) = true := by simpa using h2
    clear h hp hx h' hq hy hR h1 h2
    go_enter Try.func5, Try.ntmps5
    go_wp2_with (first
      | (go_at_call 8; refine (wakes_any' w _ (Below.refl _ _)).mono ?_; rintro e1 w1 ⟨rfl, b1⟩)
      | (go_at_call 10; (with_reducible refine (parts_on w _ A l n c b1.out HI.out).mono ?_); rintro e2 w2 ⟨A2, c2, rfl, r2, k2, b2⟩)
      | (go_at_call 10; (with_reducible refine (parts_on w _ C g m d b2.out HJ.out).mono ?_); rintro e3 w3 ⟨A3, c3, rfl, r3, k3, b3⟩; have r2' := Lib.hid (r2.out.kept k3.out (Nat.le_refl _)))
      | (go_at_call 16; (with_reducible refine (compare_on w _ A2 A3 l g n m c2 c3 R HR.out b3.out HI.out.len HJ.out.len (by have := HI.out.size; omega) (by have := HJ.out.size; omega) r2'.out.lies r3.out.lies).mono ?_); rintro e4 w4 ⟨rfl, k4, b4⟩)
      | (go_at_call 17; (with_reducible refine (refCompare_on w _ A C l g n m c d R HR.out b4.out HI.out HJ.out).mono ?_); rintro e5 w5 ⟨rfl, b5⟩)
      | (go_at_call 10; (with_reducible refine (parts_on w _ C g m d b5.out HJ.out).mono ?_); rintro e6 w6 ⟨A6, c6, rfl, r6, k6, b6⟩)
      | (go_at_call 10; (with_reducible refine (parts_on w _ A l n c b6.out HI.out).mono ?_); rintro e7 w7 ⟨A7, c7, rfl, r7, k7, b7⟩; have r6' := Lib.hid (r6.out.kept k7.out (Nat.le_refl _)))
      | (go_at_call 16; (with_reducible refine (compare_on w _ A6 A7 g l m n c6 c7 (-R) HF.out b7.out HJ.out.len HI.out.len (by have := HJ.out.size; omega) (by have := HI.out.size; omega) r6'.out.lies r7.out.lies).mono ?_); rintro e8 w8 ⟨rfl, k8, b8⟩)
      | (go_at_call 10; (with_reducible refine (parts_on w _ A l n c b8.out HI.out).mono ?_); rintro e9 w9 ⟨A9, c9, rfl, r9, k9, b9⟩)
      | (go_at_call 9; (with_reducible refine (encode_on w _ A9 l n c9 p HP.out x HX.out b9.out HI.out.len (by have := HI.out.size; omega) r9.out.lies HI.out.ok).mono ?_); rintro e10 w10 ⟨A10, c10, rfl, r10, k10, b10⟩)
      | (go_at_call 10; (with_reducible refine (parts_on w _ C g m d b10.out HJ.out).mono ?_); rintro e11 w11 ⟨A11, c11, rfl, r11, k11, b11⟩; have r10' := Lib.hid (r10.out.kept k11.out (Nat.le_refl _)))
      | (go_at_call 9; (with_reducible refine (encode_on w _ A11 g m c11 q HQ.out y HY.out b11.out HJ.out.len (by have := HJ.out.size; omega) r11.out.lies HJ.out.ok).mono ?_); rintro e12 w12 ⟨A12, c12, rfl, r12, k12, b12⟩; have r10'' := Lib.hid (r10'.out.kept k12.out (Nat.le_refl _))))
    go_ret
    exact ⟨by simp, b12.out⟩

set_option maxRecDepth 100000 in
set_option maxHeartbeats 8000000 in
theorem order_e (A C : Option Addr) (l g : List Qt) (n c m d : Nat) (p q : List Int × Int) (x y : Nat) (R : Int) (w : World) (h : PIn w A l n c) (h' : PIn w C g m d) (hp : encP (pts l) = p) (hx : p.1.length = x) (hq : encP (pts g) = q) (hy : q.1.length = y) (hR : cmpR (pts l) (pts g) = R) (h1 : p.2 ≠ 0) :
    Calls Try.prog 5 #[.slice A n c, .slice C m d] w (AllTrue w) := by
    have HP := Lib.hid hp
    have HX := Lib.hid hx
    have HQ := Lib.hid hq
    have HY := Lib.hid hy
    have HI := Lib.hid h
    have HJ := Lib.hid h'
    have HR := Lib.hid hR
    have HF : Hid (cmpR (pts g) (pts l) = -R) := Lib.hid (by rw [cmpR_flip, hR])
    obtain ⟨q0, q1⟩ := cmpR_three (pts l) (pts g)
    rw [hR] at q0 q1
    have z1 : (p.2 != 0) = true := by simpa using h1
    clear h hp hx h' hq hy hR h1
    go_enter Try.func5, Try.ntmps5
    go_wp2_with (first
      | (go_at_call 8; refine (wakes_any' w _ (Below.refl _ _)).mono ?_; rintro e1 w1 ⟨rfl, b1⟩)
      | (go_at_call 10; (with_reducible refine (parts_on w _ A l n c b1.out HI.out).mono ?_); rintro e2 w2 ⟨A2, c2, rfl, r2, k2, b2⟩)
      | (go_at_call 10; (with_reducible refine (parts_on w _ C g m d b2.out HJ.out).mono ?_); rintro e3 w3 ⟨A3, c3, rfl, r3, k3, b3⟩; have r2' := Lib.hid (r2.out.kept k3.out (Nat.le_refl _)))
      | (go_at_call 16; (with_reducible refine (compare_on w _ A2 A3 l g n m c2 c3 R HR.out b3.out HI.out.len HJ.out.len (by have := HI.out.size; omega) (by have := HJ.out.size; omega) r2'.out.lies r3.out.lies).mono ?_); rintro e4 w4 ⟨rfl, k4, b4⟩)
      | (go_at_call 17; (with_reducible refine (refCompare_on w _ A C l g n m c d R HR.out b4.out HI.out HJ.out).mono ?_); rintro e5 w5 ⟨rfl, b5⟩)
      | (go_at_call 10; (with_reducible refine (parts_on w _ C g m d b5.out HJ.out).mono ?_); rintro e6 w6 ⟨A6, c6, rfl, r6, k6, b6⟩)
      | (go_at_call 10; (with_reducible refine (parts_on w _ A l n c b6.out HI.out).mono ?_); rintro e7 w7 ⟨A7, c7, rfl, r7, k7, b7⟩; have r6' := Lib.hid (r6.out.kept k7.out (Nat.le_refl _)))
      | (go_at_call 16; (with_reducible refine (compare_on w _ A6 A7 g l m n c6 c7 (-R) HF.out b7.out HJ.out.len HI.out.len (by have := HJ.out.size; omega) (by have := HI.out.size; omega) r6'.out.lies r7.out.lies).mono ?_); rintro e8 w8 ⟨rfl, k8, b8⟩)
      | (go_at_call 10; (with_reducible refine (parts_on w _ A l n c b8.out HI.out).mono ?_); rintro e9 w9 ⟨A9, c9, rfl, r9, k9, b9⟩)
      | (go_at_call 9; (with_reducible refine (encode_on w _ A9 l n c9 p HP.out x HX.out b9.out HI.out.len (by have := HI.out.size; omega) r9.out.lies HI.out.ok).mono ?_); rintro e10 w10 ⟨A10, c10, rfl, r10, k10, b10⟩)
      | (go_at_call 10; (with_reducible refine (parts_on w _ C g m d b10.out HJ.out).mono ?_); rintro e11 w11 ⟨A11, c11, rfl, r11, k11, b11⟩; have r10' := Lib.hid (r10.out.kept k11.out (Nat.le_refl _)))
      | (go_at_call 9; (with_reducible refine (encode_on w _ A11 g m c11 q HQ.out y HY.out b11.out HJ.out.len (by have := HJ.out.size; omega) r11.out.lies HJ.out.ok).mono ?_); rintro e12 w12 ⟨A12, c12, rfl, r12, k12, b12⟩; have r10'' := Lib.hid (r10'.out.kept k12.out (Nat.le_refl _))))
    go_ret
    exact ⟨by simp, b12.out⟩

theorem order_law (A C : Option Addr) (l g : List Qt) (n c m d : Nat) (w : World) (h : PIn w A l n c) (h' : PIn w C g m d) :
    Calls Try.prog 5 #[.slice A n c, .slice C m d] w (AllTrue w) := by
  by_cases h1 : (encP (pts l)).2 = 0
  · by_cases h2 : (encP (pts g)).2 = 0
    · exact order_ok A C l g n c m d _ _ _ _ _ w h h' rfl rfl rfl rfl rfl h1 h2
    · exact order_f A C l g n c m d _ _ _ _ _ w h h' rfl rfl rfl rfl rfl h1 h2
  · exact order_e A C l g n c m d _ _ _ _ _ w h h' rfl rfl rfl rfl rfl h1

end Go.Proofs.Ytaedhedbmbmdoaa
