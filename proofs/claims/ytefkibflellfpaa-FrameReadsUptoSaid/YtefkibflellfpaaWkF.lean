/-
  Walks: a frame, read, by the document.
-/
import Derived.Test.YtefkibflellfpaaWkE
import Derived.Deep.RegionLaw
namespace Go.Proofs.Ytefkibflellfpaa
open Go.RowKit

/-- A number, new memory alone. -/
theorem number_b (A : Option Addr) (L : List Int) (n c : Nat) (w : World) (h : In w A L n c) (h4 : 4 ≤ n) (y : Nat) (hy : numL L = y) :
    Calls Try.prog 24 #[.slice A n c] w (Num w y) := by
  refine (number_any A L n c w h h4).mono ?_
  rintro e w' ⟨rfl, k, rfl⟩
  exact ⟨by rw [hy], ⟨rfl, rfl, rfl, Nat.le_refl _, fun _ _ => rfl⟩⟩

/-- An append of bytes, as a step of a region that draws. -/
theorem step_append_row (w : World) {ops : Array Oper} {o : Oper} {a : Act} {K : Act → World → Prop} {Q : Exit → Act → World → Prop} {E : Prop} (hgd : o.guard = none) (s x : Operand)
    (ho : o.op = .call { callee := .builtin .append, args := #[s, x], argTypes := #[22, 22] })
    (B : Nat) (A : Option Addr) (c : Nat) (L M : List Int) (C : Option Addr) (n m cm : Nat) (hs : a.eval s = .slice A n c) (hx : a.eval x = .slice C m cm) (en : L.length = n) (em : M.length = m) (h : Row w B A c L) (hm : Bys w C M) (hB : B ≤ w.heap.size) (hr : L.length + M.length ≤ 140737488355328)
    (k : ∀ A' c' w', Row w' B A' c' (L ++ M) → Below B w w' → K (a.put o.dst (.slice A' (n + m) c')) w') : if Region.wanted o (yielded ops a.tmps) = true then Oper.wp Try.prog o a w K Q else E := by
  have hw : Region.wanted o (yielded ops a.tmps) = true := by simp [Region.wanted, hgd]
  rw [if_pos hw]
  subst en
  subst em
  obtain ⟨i, hi, hz0, hz1, hz2⟩ := info_parts info5
  obtain ⟨A', c', w', r, h2, h3⟩ := run_append_lies w 22 o.type 5 i (.int .u8 0) 1 1 Try.underlying22 hi hz0 hz1 hz2 rfl (by decide) B A L.length c (vals L) h C M.length cm (vals M) (by simp [vals_len]) hm.lies vals_one (by unfold maxLen; omega) (by omega) hB
  rw [← vals_append] at h2
  have k' := k A' c' w' (by unfold Row; rw [List.length_append]; exact h2) h3
  unfold Oper.wp execOp
  simp only [ho, resolve, invoke, builtin, Sem.run_bind, Sem.run_pure, Result.andThen_ok, List.map_toArray, List.map_cons, List.map_nil, hs, hx, r]
  exact k'

set_option maxRecDepth 100000 in
theorem refRead_out (A : Option Addr) (L : List Int) (n c : Nat) (at_ : Int) (w : World) (h : In w A L n c) (ho : at_ < 0 ∨ (n : Int) < at_) :
    Calls Try.prog 14 #[.slice A n c, .int .i64 at_] w (Got w (readP L at_)) := by
  have HE := Lib.hid (readP_out (L := L) (at_ := at_) (by rw [h.len]; exact ho))
  clear h
  by_cases h0 : at_ < 0
  · clear ho
    go_enter Try.func14, Try.ntmps14
    go_wp2
    go_ret3
    exact got_none _ _ _ HE.out _ (Below.refl _ _)
  · have h1 : (n : Int) < at_ := by omega
    have h0' : decide (at_ < 0) = false := by simpa using h0
    clear ho
    go_enter Try.func14, Try.ntmps14
    go_wp2
    go_ret3
    exact got_none _ _ _ HE.out _ (Below.refl _ _)

set_option maxRecDepth 100000 in
set_option maxHeartbeats 2000000 in
theorem refRead_few (A : Option Addr) (L : List Int) (a k c : Nat) (w : World) (h : In w A L (a + k) c) (hk : k < 8) :
    Calls Try.prog 14 #[.slice A (a + k) c, .int .i64 (a : Int)] w (Got w (readP L a)) := by
  have ha0 : decide ((a : Int) < 0) = false := by simp
  have ha1 : decide (((a + k : Nat) : Int) < (a : Int)) = false := by simp; omega
  have hlen := h.len
  have hl1 : (L.drop a).length = k := by rw [List.length_drop]; omega
  have hsub : wrap64 ((a : Int) + (k : Int) - (a : Int)) = k := by have := h.cap; have := h.top; unfold wrap64; omega
  by_cases hz : k = 0
  · have hz' : ((a : Int) == (a : Int) + (k : Int)) = true := by simp; omega
    have HE := Lib.hid (readP_bad (L := L) (a := a) (e := 12) (by omega) (by rw [List.drop_of_length_le (by omega)]; rfl) (by decide))
    clear h hlen hl1 hz
    go_enter Try.func14, Try.ntmps14
    go_wp2_with fail
    go_ret3
    exact got_none _ _ _ HE.out _ (Below.refl _ _)
  · have HE := Lib.hid (readP_bad (L := L) (a := a) (e := 10) (by omega) (readL_few _ (fun e => by rw [e] at hl1; simp at hl1; omega) (by omega)) (by decide))
    have hk' : decide ((k : Int) < 8) = true := by simp; omega
    have hz' : ((a : Int) == (a : Int) + (k : Int)) = false := by simp; omega
    clear h hlen hl1 hz
    go_enter Try.func14, Try.ntmps14
    go_wp2_with fail
    go_ret3
    exact got_none _ _ _ HE.out _ (Below.refl _ _)

set_option maxRecDepth 100000 in
set_option maxHeartbeats 4000000 in
theorem refRead_in (A : Option Addr) (L : List Int) (a k c : Nat) (w : World) (h : In w A L (a + k) c) (hk : ¬ k < 8) :
    Calls Try.prog 14 #[.slice A (a + k) c, .int .i64 (a : Int)] w (Got w (readP L a)) := by
  obtain ⟨A1, s1, i1⟩ := in_low h
  have ha0 : decide ((a : Int) < 0) = false := by simp
  have ha1 : decide (((a + k : Nat) : Int) < (a : Int)) = false := by simp; omega
  have hz' : ((a : Int) == (a : Int) + (k : Int)) = false := by simp; omega
  have hk' : decide ((k : Int) < 8) = false := by simp; omega
  have htop : Hid ((a : Int) + k ≤ 9223372036854775807) := Lib.hid (by have := h.cap; have := h.top; omega)
  have hsub : wrap64 ((a : Int) + (k : Int) - (a : Int)) = k := by have := htop.out; unfold wrap64; omega
  have hsub0 : (a : Int) + (k : Int) - (a : Int) = k := by omega
  have hwk : wrap64 (k : Int) = k := by have := htop.out; unfold wrap64; omega
  have hsub8 : wrap64 ((k : Int) - 8) = (k : Int) - 8 := by have := htop.out; unfold wrap64; omega
  have haL : Hid (a ≤ L.length) := Lib.hid (by rw [h.len]; omega)
  have HI := Lib.hid h
  obtain ⟨R, hR⟩ : ∃ R, L.drop a = R := ⟨_, rfl⟩
  have HR := Lib.hid hR
  rw [hR] at i1
  have I1 := Lib.hid i1
  obtain ⟨m, hm, hm32⟩ := numL_nat i1.byt
  have HM := Lib.hid hm
  have W1 := Lib.hid (number_b A1 R k (c - a) w i1 (by omega) m hm)
  have R8 : Hid (¬ R.length < 8) := Lib.hid (by rw [i1.len]; exact hk)
  clear h hR i1 hm hm32 hk
  by_cases hl : 2097152 < m
  · have hl' : (2097152 : Int) < m := by omega
    have HE := Lib.hid (readP_bad (L := L) haL.out (by rw [HR.out]; exact readL_great R8.out (by rw [HM.out]; exact hl')) (by decide))
    go_enter Try.func14, Try.ntmps14
    go_wp2_with (go_at_call 24; refine W1.out.mono ?_; rintro e w1 ⟨rfl, b1⟩; have B1 := Lib.hid b1; clear b1)
    go_ret3
    exact got_none _ _ _ HE.out _ B1.out
  · have hl' : ¬ (2097152 : Int) < m := by omega
    have hm2 : (m : Int) ≤ 2097152 := by omega
    by_cases ht : k < 8 + m
    · have ht' : decide ((k : Int) - 8 < (m : Int)) = true := by simp; omega
      have HE := Lib.hid (readP_bad (L := L) haL.out (by rw [HR.out]; exact readL_torn R8.out HM.out hl (by rw [I1.out.len]; exact ht)) (by decide))
      go_enter Try.func14, Try.ntmps14
      go_wp2_with (go_at_call 24; refine W1.out.mono ?_; rintro e w1 ⟨rfl, b1⟩; have B1 := Lib.hid b1; clear b1)
      go_ret3
      exact got_none _ _ _ HE.out _ B1.out
    · have ht' : decide ((k : Int) - 8 < (m : Int)) = false := by simp; omega
      have hw8 : wrap64 ((a : Int) + 8 + (m : Int)) = (a : Int) + 8 + m := by have := htop.out; unfold wrap64; omega
      have hw8' : wrap64 ((a : Int) + 8) = (a : Int) + 8 := by have := htop.out; unfold wrap64; omega
      have hw4 : wrap64 ((a : Int) + 4) = (a : Int) + 4 := by have := htop.out; unfold wrap64; omega
      go_enter Try.func14, Try.ntmps14
      go_upto_region 13 with (go_at_call 24; refine W1.out.mono ?_; rintro e w1 ⟨rfl, b1⟩; have B1 := Lib.hid b1; clear b1)
      clear s1 W1 hsub hsub0 hwk hsub8 ht' hz' hk'
      have hv4 : IntKind.i64.wrap ((a : Int) + 4) = (a : Int) + 4 := by have := htop.out; simp only [IntKind.wrap_i64]; omega
      have hv8 : IntKind.i64.wrap ((a : Int) + 8) = (a : Int) + 8 := by have := htop.out; simp only [IntKind.wrap_i64]; omega
      have hvm : IntKind.i64.wrap ((a : Int) + 8 + (m : Int)) = (a : Int) + 8 + m := by have := htop.out; simp only [IntKind.wrap_i64]; omega
      have HW : Hid ((a : Int) + 8 + (m : Int) = (a : Int) + ((8 + m : Nat) : Int)) := Lib.hid (by omega)
      have HIa : Hid (In w A L (a + 4 + (k - 4)) c) := Lib.hid (by rw [show a + 4 + (k - 4) = a + k by omega]; exact HI.out)
      obtain ⟨A3, z3, i3⟩ := in_low HIa.out
      rw [show a + 4 + (k - 4) = a + k by omega] at z3
      have s3 : ∀ W, (Instr.slice 22 (.slice A (a + k) c) (some (.int .i64 ((a : Int) + 4))) none none).run Try.prog W = .ok (.slice A3 (k - 4) (c - (a + 4))) W := z3
      obtain ⟨A4, z4, i4, -⟩ := in_mid HI.out (a := a) (k := 4) (by omega)
      have s4 : ∀ W, (Instr.slice 22 (.slice A (a + k) c) (some (.int .i64 (a : Int))) (some (.int .i64 ((a : Int) + 4))) none).run Try.prog W = .ok (.slice A4 4 (c - a)) W := z4
      obtain ⟨A5, z5, i5, -⟩ := in_mid HI.out (a := a + 8) (k := m) (by omega)
      have s5 : ∀ W, (Instr.slice 22 (.slice A (a + k) c) (some (.int .i64 ((a : Int) + 8))) (some (.int .i64 ((a : Int) + 8 + (m : Int)))) none).run Try.prog W = .ok (.slice A5 m (c - (a + 8))) W := z5
      rw [← List.drop_drop, HR.out] at i3 i5
      rw [HR.out] at i4
      obtain ⟨y, hy, -⟩ := numL_nat i3.byt
      have I3 := Lib.hid (And.intro (fun W (b : Below w.heap.size w W) => number_b A3 (R.drop 4) (k - 4) (c - (a + 4)) W (i3.kept b) (by omega) y hy) True.intro)
      obtain ⟨S, hS⟩ : ∃ S, sumL (R.take 4 ++ (R.drop 8).take m) = S := ⟨_, rfl⟩
      have HS := Lib.hid hS
      have HY := Lib.hid hy
      have I4 := Lib.hid i4
      have I5 := Lib.hid i5
      have HT := Lib.hid (And.intro ht hl)
      have LX : Hid ((R.take 4).length = 4 ∧ ((R.drop 8).take m).length = m ∧ (R.take 4 ++ (R.drop 8).take m).length = 4 + m) := Lib.hid ⟨i4.len, i5.len, by rw [List.length_append, i4.len, i5.len]⟩
      have BX : Hid (Byt (R.take 4) ∧ Byt ((R.drop 8).take m)) := Lib.hid ⟨i4.byt, i5.byt⟩
      obtain ⟨X, hX⟩ : ∃ X, R.take 4 = X := ⟨_, rfl⟩
      obtain ⟨Y, hY⟩ : ∃ Y, (R.drop 8).take m = Y := ⟨_, rfl⟩
      rw [hX, hY] at LX BX HS
      rw [hX] at I4
      rw [hY] at I5
      have HX := Lib.hid hX
      have HYY := Lib.hid hY
      have CB : Hid (Below w.heap.size w w1.drew) := Lib.hid B1.out.drew
      clear z3 z4 z5 i3 i4 i5 hy hS ht hl hX hY
      have SS : Hid (∀ A' c' W, Row W w.heap.size A' c' (X ++ Y) → Calls Try.prog 12 #[.slice A' (4 + m) c'] W fun e w' => e = .returned (.int .u32 (S : Nat)) ∧ W = w') := Lib.hid (fun A' c' W r => by
        have := refSum_any A' (X ++ Y) (4 + m) c' W (r.in_n (BX.out.1.append BX.out.2) LX.out.2.2)
        rwa [HS.out] at this)
      by_cases hs : y = S
      · have hs' : ((y : Int) == (S : Int)) = true := by simp [hs]
        have HE := Lib.hid (readP_ok (L := L) haL.out (by rw [HR.out]; exact readL_good R8.out HM.out HT.out.2 (by rw [I1.out.len]; have := HT.out.1; omega) (by rw [HX.out, HYY.out, HY.out, HS.out, hs])))
        clear hs
        go_region_law (first
          | (refine step_append_row _ rfl (.tmp 50) (.tmp 55) rfl w.heap.size _ _ [] X A4 0 4 (c - a) (by simp [Act.eval]) (by simp [Act.eval]) rfl LX.out.1 CR.out (I4.out.kept CB.out).bys CB.out.size (by rw [LX.out.1]; decide) ?_; intro A6 c6 w6 r6 b6; have CR := Lib.hid r6; have CB := Lib.hid (CB.out.trans b6); clear r6 b6)
          | (refine step_append_row _ rfl (.tmp 50) (.tmp 55) rfl w.heap.size _ 0 [] X A4 0 4 (c - a) (by simp [Act.eval]) (by simp [Act.eval]) rfl LX.out.1 (row_made _ _ [] #[] rfl (by simp) CB.out.size) (I4.out.kept (CB.out.alloc CB.out.size _)).bys (by have := CB.out.size; simp; omega) (by rw [LX.out.1]; decide) ?_; intro A6 c6 w6 r6 b6; have CR := Lib.hid r6; have CB := Lib.hid ((CB.out.alloc CB.out.size _).trans b6); clear r6 b6)
          | (refine step_append_row _ rfl (.tmp 56) (.tmp 61) rfl w.heap.size A6 c6 X Y A5 4 m (c - (a + 8)) (by simp [Act.eval]) (by simp [Act.eval]) LX.out.1 LX.out.2.1 CR.out (I5.out.kept CB.out).bys CB.out.size (by rw [LX.out.1, LX.out.2.1]; omega) ?_; intro A7 c7 w7 r7 b7; have CR := Lib.hid r7; have CB := Lib.hid (CB.out.trans b7); clear r7 b7)
          | (go_simp; go_at_call 12; refine (SS.out A7 c7 _ CR.out).mono ?_; rintro e w8 ⟨rfl, hw⟩; subst hw)
          | (go_simp; go_at_call 24; refine (I3.out.1 _ CB.out).mono ?_; rintro e w9 ⟨rfl, b9⟩; have CR := Lib.hid (CR.out.kept b9 (Nat.le_refl _)); have CB := Lib.hid (below_then CB.out b9); clear b9)
          | (go_simp; go_at_call 24; refine (I3.out.1 _ (CB.out.alloc CB.out.size _)).mono ?_; rintro e w9 ⟨rfl, b9⟩; have CR := Lib.hid ((row_made _ _ [] #[] rfl (by simp) CB.out.size).kept b9 (Nat.le_refl _)); have CB := Lib.hid (below_then (CB.out.alloc CB.out.size _) b9); clear b9)
          | (go_simp; go_at_call 24; refine (I3.out.1 _ CB.out).mono ?_; rintro e w9 ⟨rfl, b9⟩; have CB := Lib.hid (below_then CB.out b9); clear b9))
        all_goals
          go_wp2_with (at_builtin; refine wpList_append_row _ rfl (.tmp 65) (.tmp 70) rfl w.heap.size _ 0 [] Y A5 0 m (c - (a + 8)) rfl rfl rfl LX.out.2.1 (row_made _ _ [] #[] rfl (by simp) CB.out.size) (I5.out.kept (CB.out.alloc CB.out.size _)).bys (by have := CB.out.size; simp; omega) (by rw [LX.out.2.1]; simp; omega) ?_; intro A10 c10 w10 r10 b10; have R10 := Lib.hid r10; have B10 := Lib.hid ((CB.out.alloc CB.out.size _).trans b10); clear r10 b10)
          go_ret3
          rw [HE.out, HYY.out]
          refine ⟨A10, c10, ?_, R10.out, B10.out⟩
          show Ending.returned (.tuple #[.slice A10 m c10, .int .i64 ((a : Int) + 8 + (m : Int)), .int .i64 0]) = .returned (.tuple #[.slice A10 Y.length c10, .int .i64 ((a : Int) + ((8 + m : Nat) : Int)), .int .i64 0])
          rw [LX.out.2.1, HW.out]
      · have hs' : ((y : Int) == (S : Int)) = false := by simp; omega
        have HE := Lib.hid (readP_bad (L := L) haL.out (by rw [HR.out]; exact readL_sum R8.out HM.out HT.out.2 (by rw [I1.out.len]; have := HT.out.1; omega) (by rw [HX.out, HYY.out, HY.out, HS.out]; omega)) (by decide))
        clear hs
        go_region_law (first
          | (refine step_append_row _ rfl (.tmp 50) (.tmp 55) rfl w.heap.size _ _ [] X A4 0 4 (c - a) (by simp [Act.eval]) (by simp [Act.eval]) rfl LX.out.1 CR.out (I4.out.kept CB.out).bys CB.out.size (by rw [LX.out.1]; decide) ?_; intro A6 c6 w6 r6 b6; have CR := Lib.hid r6; have CB := Lib.hid (CB.out.trans b6); clear r6 b6)
          | (refine step_append_row _ rfl (.tmp 50) (.tmp 55) rfl w.heap.size _ 0 [] X A4 0 4 (c - a) (by simp [Act.eval]) (by simp [Act.eval]) rfl LX.out.1 (row_made _ _ [] #[] rfl (by simp) CB.out.size) (I4.out.kept (CB.out.alloc CB.out.size _)).bys (by have := CB.out.size; simp; omega) (by rw [LX.out.1]; decide) ?_; intro A6 c6 w6 r6 b6; have CR := Lib.hid r6; have CB := Lib.hid ((CB.out.alloc CB.out.size _).trans b6); clear r6 b6)
          | (refine step_append_row _ rfl (.tmp 56) (.tmp 61) rfl w.heap.size A6 c6 X Y A5 4 m (c - (a + 8)) (by simp [Act.eval]) (by simp [Act.eval]) LX.out.1 LX.out.2.1 CR.out (I5.out.kept CB.out).bys CB.out.size (by rw [LX.out.1, LX.out.2.1]; omega) ?_; intro A7 c7 w7 r7 b7; have CR := Lib.hid r7; have CB := Lib.hid (CB.out.trans b7); clear r7 b7)
          | (go_simp; go_at_call 12; refine (SS.out A7 c7 _ CR.out).mono ?_; rintro e w8 ⟨rfl, hw⟩; subst hw)
          | (go_simp; go_at_call 24; refine (I3.out.1 _ CB.out).mono ?_; rintro e w9 ⟨rfl, b9⟩; have CR := Lib.hid (CR.out.kept b9 (Nat.le_refl _)); have CB := Lib.hid (below_then CB.out b9); clear b9)
          | (go_simp; go_at_call 24; refine (I3.out.1 _ (CB.out.alloc CB.out.size _)).mono ?_; rintro e w9 ⟨rfl, b9⟩; have CR := Lib.hid ((row_made _ _ [] #[] rfl (by simp) CB.out.size).kept b9 (Nat.le_refl _)); have CB := Lib.hid (below_then (CB.out.alloc CB.out.size _) b9); clear b9)
          | (go_simp; go_at_call 24; refine (I3.out.1 _ CB.out).mono ?_; rintro e w9 ⟨rfl, b9⟩; have CB := Lib.hid (below_then CB.out b9); clear b9))
        all_goals
          go_wp2_with fail
          go_ret3
          exact got_none _ _ _ HE.out _ CB.out

theorem refRead_any (A : Option Addr) (L : List Int) (n c : Nat) (at_ : Int) (w : World) (h : In w A L n c) :
    Calls Try.prog 14 #[.slice A n c, .int .i64 at_] w (Got w (readP L at_)) := by
  by_cases g : at_ < 0 ∨ (n : Int) < at_
  · exact refRead_out A L n c at_ w h g
  · obtain ⟨a, rfl⟩ := Int.eq_ofNat_of_zero_le (a := at_) (by omega)
    obtain ⟨k, rfl⟩ : ∃ k, n = a + k := ⟨n - a, by omega⟩
    by_cases hk : k < 8
    · exact refRead_few A L a k c w h hk
    · exact refRead_in A L a k c w h hk

end Go.Proofs.Ytefkibflellfpaa
