/-
  Walks: a payload, put, by the program and by the document.
-/
import Derived.Test.YtefkibflellfpaaWkC
namespace Go.Proofs.Ytefkibflellfpaa
open Go.RowKit

/-- What Put answers. -/
def putP (p : List Int) : List Int × Int := if 2097152 < p.length then ([], 3) else (putL p, 0)
theorem putP_long {p : List Int} (h : 2097152 < p.length) : putP p = ([], 3) := by unfold putP; rw [if_pos h]
theorem putP_ok {p : List Int} (h : ¬ 2097152 < p.length) : putP p = (putL p, 0) := by unfold putP; rw [if_neg h]
def Wrote (w : World) (p : List Int × Int) (e : Ending) (w' : World) : Prop :=
  ∃ A c, e = .returned (.tuple #[.slice A p.1.length c, .int .i64 p.2]) ∧ Row w' w.heap.size A c p.1 ∧ Below w.heap.size w w'
/-- .. a slice that has grown to so many bytes. -/
def LongerN (w : World) (B : Nat) (L : List Int) (m : Nat) (e : Ending) (w' : World) : Prop := ∃ A c, e = .returned (.slice A m c) ∧ Row w' B A c L ∧ Below B w w'
theorem longer_n {f : FuncId} {args : Array Value} {w : World} {B : Nat} {L M : List Int} {m : Nat} (h : Calls Try.prog f args w (Longer w B L)) (hL : L = M) (hm : M.length = m) : Calls Try.prog f args w (LongerN w B M m) := by
  subst hL
  subst hm
  exact h
theorem row_in {w : World} {B c n : Nat} {A : Option Addr} {L : List Int} (h : Row w B A c L) (hB : Byt L) (hn : L.length = n) : In w A L n c := h.in_n hB hn

set_option maxRecDepth 100000 in
set_option maxHeartbeats 2000000 in
theorem put_any (A : Option Addr) (L : List Int) (n c : Nat) (w : World) (h : In w A L n c) :
    Calls Try.prog 19 #[.slice A n c] w (Wrote w (putP L)) := by
  have HN := Lib.hid h.len
  by_cases hl : 2097152 < n
  · have hl' : (2097152 : Int) < n := by omega
    have HE := Lib.hid (putP_long (p := L) (by have := HN.out; omega))
    clear h
    go_enter Try.func19, Try.ntmps19
    go_wp2
    go_ret2
    rw [HE.out]
    exact ⟨none, 0, rfl, Row.nil _ _, Below.refl _ _⟩
  · have hl' : ¬ (2097152 : Int) < n := by omega
    have hl2 : (n : Int) ≤ 2097152 := by omega
    have HE := Lib.hid (putP_ok (p := L) (by have := HN.out; omega))
    have HI := Lib.hid h
    obtain ⟨F, hF⟩ : ∃ F, fourL (n : Int) = F := ⟨_, rfl⟩
    have HF := Lib.hid hF
    have F4 : Hid (F.length = 4) := Lib.hid (by rw [← hF]; rfl)
    have FB : Hid (Byt F) := Lib.hid (by rw [← hF]; exact fourL_byt _)
    obtain ⟨S, hS⟩ : ∃ S, sumL (F ++ L) = S := ⟨_, rfl⟩
    have HS := Lib.hid hS
    have S32 : Hid (S < 4294967296) := Lib.hid (by rw [← hS]; exact sumL_lt _ (FB.out.append HI.out.byt))
    clear h hF hS
    go_enter Try.func19, Try.ntmps19
    go_upto_region 4 with (at_make; refine wpList_make_mine _ rfl _ _ rfl (8 + n) rfl rfl (by omega) ?_; intro w1 m1 b1 s1; have R1 := Lib.hid m1.row; have B1 := Lib.hid b1; clear m1 b1 s1)
    have W1 := Lib.hid (longer_n (appendWord_any w.heap.size _ [] 0 (8 + n) n w1 rfl R1.out B1.out.size (by omega) (by omega)) (M := F) (by rw [HF.out]; rfl) F4.out)
    go_upto_region 5 with (go_at_call 26; refine W1.out.mono ?_; rintro e w2 ⟨A2, c2, rfl, r2, b2⟩; have R2 := Lib.hid r2; have B2 := Lib.hid (B1.out.trans b2); clear r2 b2)
    have hF4 := F4.out
    have S2 : Hid (Calls Try.prog 21 #[.slice (some ⟨w2.heap.size, 0, none⟩) 2 2] (w2.alloc (.cells #[.slice A2 4 c2, .slice A n c] 22)) fun e w' => e = .returned (.int .u32 (S : Nat)) ∧ w2.alloc (.cells #[.slice A2 4 c2, .slice A n c] 22) = w') := Lib.hid (by
      have := sumOf_any (some ⟨w2.heap.size, 0, none⟩) [⟨A2, c2, F⟩, ⟨A, c, L⟩] 2 2 (w2.alloc (.cells #[.slice A2 4 c2, .slice A n c] 22)) rfl (by decide) (lit_lies w2 _ _ (by simp [svals, Sl.val, hF4, HN.out]) _)
        (AllIn.cons ((R2.out.in_ FB.out).kept (below_new w2 _)) (AllIn.cons ((HI.out.kept B2.out).of_n.kept (below_new w2 _)) (AllIn.nil _)))
      have e : (byts [⟨A2, c2, F⟩, ⟨A, c, L⟩]).flatten = F ++ L := by simp [byts]
      rw [e, HS.out] at this
      exact this)
    have B2' := Lib.hid (B2.out.alloc B2.out.size (.cells #[.slice A2 4 c2, .slice A n c] 22))
    have W3 := Lib.hid (appendWord_any w.heap.size A2 F 4 c2 S _ hF4 (R2.out.alloc (.cells #[.slice A2 4 c2, .slice A n c] 22)) B2'.out.size (by omega) S32.out)
    have L8 : Hid ((F ++ fourL (S : Int)).length = 8) := Lib.hid (by rw [List.length_append, F4.out]; rfl)
    have W3 := Lib.hid (longer_n W3.out rfl L8.out)
    clear hF4
    go_upto_region 6 with (first
      | (go_at_call 21; refine S2.out.mono ?_; rintro e w3 ⟨rfl, hw⟩; subst hw)
      | (go_at_call 26; refine W3.out.mono ?_; rintro e w4 ⟨A4, c4, rfl, r4, b4⟩; have R4 := Lib.hid r4; have B4 := Lib.hid (B2'.out.trans b4); clear r4 b4))
    go_wp2_with (at_builtin; refine wpList_append_row _ rfl (.tmp 23) (.tmp 24) rfl w.heap.size A4 c4 (F ++ fourL (S : Int)) L A 8 n c rfl rfl L8.out HN.out R4.out (HI.out.bys.kept B4.out) B4.out.size (by rw [L8.out, HN.out]; omega) ?_; intro A5 c5 w5 r5 b5; have R5 := Lib.hid r5; have B5 := Lib.hid (B4.out.trans b5); clear r5 b5)
    go_ret2
    have HP : F ++ fourL (S : Int) ++ L = putL L := by
      unfold putL
      rw [HN.out, HF.out, HS.out, List.append_assoc]
    have HLn : (putL L).length = 8 + n := by rw [putL_len, HN.out]
    rw [HE.out]
    exact ⟨A5, c5, by show _ = Ending.returned (.tuple #[.slice A5 (putL L).length c5, .int .i64 0]); rw [HLn]; rfl, by rw [← HP]; exact R5.out, B5.out⟩

set_option maxRecDepth 100000 in
set_option maxHeartbeats 2000000 in
theorem refPut_any (A : Option Addr) (L : List Int) (n c : Nat) (w : World) (h : In w A L n c) :
    Calls Try.prog 20 #[.slice A n c] w (Wrote w (putP L)) := by
  have HN := Lib.hid h.len
  by_cases hl : 2097152 < n
  · have hl' : (2097152 : Int) < n := by omega
    have HE := Lib.hid (putP_long (p := L) (by have := HN.out; omega))
    clear h
    go_enter Try.func20, Try.ntmps20
    go_wp2
    go_ret2
    rw [HE.out]
    exact ⟨none, 0, rfl, Row.nil _ _, Below.refl _ _⟩
  · have hl' : ¬ (2097152 : Int) < n := by omega
    have hl2 : (n : Int) ≤ 2097152 := by omega
    have HE := Lib.hid (putP_ok (p := L) (by have := HN.out; omega))
    have HI := Lib.hid h
    obtain ⟨F, hF⟩ : ∃ F, fourL (n : Int) = F := ⟨_, rfl⟩
    have HF := Lib.hid hF
    have F4 : Hid (F.length = 4) := Lib.hid (by rw [← hF]; rfl)
    have FB : Hid (Byt F) := Lib.hid (by rw [← hF]; exact fourL_byt _)
    obtain ⟨S, hS⟩ : ∃ S, sumL (F ++ L) = S := ⟨_, rfl⟩
    have HS := Lib.hid hS
    have S32 : Hid (S < 4294967296) := Lib.hid (by rw [← hS]; exact sumL_lt _ (FB.out.append HI.out.byt))
    obtain ⟨G, hG⟩ : ∃ G, fourL (S : Int) = G := ⟨_, rfl⟩
    have HG := Lib.hid hG
    have G4 : Hid (G.length = 4) := Lib.hid (by rw [← hG]; rfl)
    have W0 := Lib.hid (longer_n (four_any n w (by omega)) hF F4.out)
    have FL : Hid ((F ++ L).length = 4 + n) := Lib.hid (by rw [List.length_append, F4.out, HN.out])
    have L8 : Hid ((F ++ G).length = 8) := Lib.hid (by rw [List.length_append, F4.out, G4.out])
    clear h hF hS hG
    go_enter Try.func20, Try.ntmps20
    go_upto_region 4 with (go_at_call 27; refine W0.out.mono ?_; rintro e w1 ⟨A1, c1, rfl, r1, b1⟩; have R1 := Lib.hid r1; have B1 := Lib.hid b1; clear r1 b1)
    have M1 := Lib.hid (row_made w1 w1.heap.size [] #[] rfl (by simp) (Nat.le_refl _))
    go_upto_region 5 with (first
      | (at_builtin; refine wpList_append_row _ rfl (.tmp 13) (.tmp 14) rfl w1.heap.size _ 0 [] F A1 0 4 c1 rfl rfl rfl F4.out M1.out (R1.out.alloc _).lies (by simp) (by rw [F4.out]; decide) ?_; intro A2 c2 w2 r2 b2; have R2 := Lib.hid r2; have K2 := Lib.hid ((below_new w1 _).trans b2); have B2 := Lib.hid (below_then B1.out K2.out); clear r2 b2)
      | (at_builtin; refine wpList_append_row _ rfl (.tmp 15) (.tmp 16) rfl w1.heap.size A2 c2 F L A 4 n c rfl rfl F4.out HN.out R2.out (HI.out.bys.kept B2.out) K2.out.size (by rw [F4.out, HN.out]; omega) ?_; intro A3 c3 w3 r3 b3; have R3 := Lib.hid r3; have K3 := Lib.hid (K2.out.trans b3); have B3 := Lib.hid (below_then B1.out K3.out); have S3 := Lib.hid (refSum_any A3 (F ++ L) (4 + n) c3 w3 (r3.in_n (FB.out.append HI.out.byt) FL.out)); rw [HS.out] at S3; clear r3 b3)
      | (go_at_call 12; refine S3.out.mono ?_; rintro e w4 ⟨rfl, hw⟩; subst hw)
      | (go_at_call 27; refine (longer_n (four_any S w3 S32.out) HG.out G4.out).mono ?_; rintro e w5 ⟨A5, c5, rfl, r5, b5⟩; have R5 := Lib.hid r5; have K5 := Lib.hid b5; have B5 := Lib.hid (below_then B3.out b5); clear r5 b5))
    have Q5 := Lib.hid ((R1.out.kept K3.out (Nat.le_refl _)).kept K5.out (Nat.le_refl _))
    go_wp2_with (first
      | (at_builtin; refine wpList_append_row _ rfl (.tmp 20) (.tmp 21) rfl w.heap.size A1 c1 F G A5 4 4 c5 rfl rfl F4.out G4.out Q5.out R5.out.lies B5.out.size (by rw [F4.out, G4.out]; decide) ?_; intro A6 c6 w6 r6 b6; have R6 := Lib.hid r6; have B6 := Lib.hid (B5.out.trans b6); clear r6 b6)
      | (at_builtin; refine wpList_append_row _ rfl (.tmp 22) (.tmp 23) rfl w.heap.size A6 c6 (F ++ G) L A 8 n c rfl rfl L8.out HN.out R6.out (HI.out.bys.kept B6.out) B6.out.size (by rw [L8.out, HN.out]; omega) ?_; intro A7 c7 w7 r7 b7; have R7 := Lib.hid r7; have B7 := Lib.hid (B6.out.trans b7); clear r7 b7))
    go_ret2
    have HP : F ++ G ++ L = putL L := by
      unfold putL
      rw [HN.out, HF.out, HS.out, HG.out, List.append_assoc]
    have HLn : (putL L).length = 8 + n := by rw [putL_len, HN.out]
    rw [HE.out]
    exact ⟨A7, c7, by show _ = Ending.returned (.tuple #[.slice A7 (putL L).length c7, .int .i64 0]); rw [HLn]; rfl, by rw [← HP]; exact R7.out, B7.out⟩

end Go.Proofs.Ytefkibflellfpaa
