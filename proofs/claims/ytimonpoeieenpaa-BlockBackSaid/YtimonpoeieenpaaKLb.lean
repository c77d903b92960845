/-
  The laws: a key looked for in any bytes.
-/
import Derived.Test.YtimonpoeieenpaaKBx
namespace Go.Proofs.Ytimonpoeieenpaa
open Go.RowKit

/-- What a law's own first call answers. -/
def Wakes (f : FuncId) : Prop := ∀ w : World, Calls Try.prog f #[] w fun e w' => e = .returned (.bool true) ∧ Below w.heap.size w w'

set_option maxRecDepth 100000 in
set_option maxHeartbeats 4000000 in
theorem lawFinds_of (hwk : Wakes 7) (A C : Option Addr) (L K : List Int) (n c m d : Nat) (w : World) (h : In w A L n c) (g : In w C K m d) (hn : n ≤ 140737488355328) (hm : m ≤ 140737488355328) :
    Calls Try.prog 4 #[.slice A n c, .slice C m d] w fun e w' => e = .returned (.bool true) ∧ Below w.heap.size w w' := by
  have HA := Lib.hid (fun (w' : World) (hb : Below w.heap.size w w') => h.kept hb)
  have HC := Lib.hid (fun (w' : World) (hb : Below w.heap.size w w') => g.kept hb)
  have OA := Lib.hid (fun (w' : World) (hb : Below w.heap.size w w') => own_any A L n c w' h.len (h.kept hb).bys (by rw [h.len]; exact Nat.le_trans hn (by decide)))
  have OC := Lib.hid (fun (w' : World) (hb : Below w.heap.size w w') => own_any C K m d w' g.len (g.kept hb).bys (by rw [g.len]; exact Nat.le_trans hm (by decide)))
  have FP := Lib.hid (fun (A C : Option Addr) (c d : Nat) (w : World) (h : In w A L n c) (g : In w C K m d) => find_any A C L K n c m d w h g hn)
  have FR := Lib.hid (fun (A C : Option Addr) (c d : Nat) (w : World) (h : In w A L n c) (g : In w C K m d) => refFind_any A C L K n c m d w h g hn)
  have HN := Lib.hid h.len
  have HM := Lib.hid g.len
  have YL := Lib.hid h.byt
  have YK := Lib.hid g.byt
  have WK := Lib.hid hwk
  clear h g hn hm hwk
  generalize findP L K = p at FP FR
  obtain ⟨V, fb, r⟩ := p
  go_enter Try.func4, Try.ntmps4
  go_wp2_with (first
    | (go_at_call 7; refine (WK.out _).mono ?_; rintro e w1 ⟨rfl, b1⟩; have B1 := Lib.hid b1; clear b1 WK)
    | (have t := OA; go_at_call 13; refine (OA.out _ B1.out).mono ?_; rintro e w2 ⟨g2, c2, rfl, m2, b2⟩; rw [HN.out]; have I2 : Hid (In w2 (some ⟨g2, 0, none⟩) L n c2) := Lib.hid (Row.in_n (A := some ⟨g2, 0, none⟩) m2 YL.out HN.out); have B2 := Lib.hid (below_then B1.out b2); clear m2 b2 t OA)
    | (have t := OC; go_at_call 13; refine (OC.out _ B2.out).mono ?_; rintro e w3 ⟨g3, c3, rfl, m3, b3⟩; rw [HM.out]; have I3 : Hid (In w3 (some ⟨g3, 0, none⟩) K m c3) := Lib.hid (Row.in_n (A := some ⟨g3, 0, none⟩) m3 YK.out HM.out); have J3 := Lib.hid (I2.out.kept b3); have B3 := Lib.hid (below_then B2.out b3); clear m3 b3 t OC)
    | (have t := FP; go_at_call 12; refine (FP.out _ _ _ _ _ J3.out I3.out).mono ?_; rintro e w4 ⟨A4, c4, rfl, i4, b4⟩; have I4 := Lib.hid i4; have B4 := Lib.hid (below_then B3.out b4); clear i4 b4 t FP)
    | (have t := FR; go_at_call 14; refine (FR.out _ _ _ _ _ (HA.out _ B4.out) (HC.out _ B4.out)).mono ?_; rintro e w5 ⟨A5, c5, rfl, i5, b5⟩; have I5 := Lib.hid i5; have J5 := Lib.hid (I4.out.kept b5); have B5 := Lib.hid (below_then B4.out b5); clear i5 b5 t FR)
    | (go_at_call 11; refine (same_any _ _ V _ _ _ _ _ rfl rfl J5.out.bys I5.out.bys).mono ?_; rintro e w6 ⟨rfl, rfl⟩))
  go_ret
  exact ⟨by simp, B5.out⟩

end Go.Proofs.Ytimonpoeieenpaa
