/-
  Walks: a frame, read, by the program.
-/
import Derived.Test.YtjppklgegpmfpaaGreatDoorFwB
import Derived.Deep.RegionWith
namespace Go.Proofs.YtjppklgegpmfpaaGreatDoor
open Go.RowKit

/-- What Read answers: the payload, the place behind, the error. -/
def Got (w : World) (p : List Int × Int × Int) (e : Ending) (w' : World) : Prop :=
  ∃ A c, e = .returned (.tuple #[.slice A p.1.length c, .int .i64 p.2.1, .int .i64 p.2.2]) ∧ Row w' w.heap.size A c p.1 ∧ Below w.heap.size w w'
theorem got_none (w : World) (p : List Int × Int × Int) (n : Int) (h : p = ([], 0, n)) (w' : World) (hb : Below w.heap.size w w') : Got w p (.returned (.tuple #[.slice none 0 0, .int .i64 0, .int .i64 n])) w' := by
  subst h
  exact ⟨none, 0, rfl, Row.nil _ _, hb⟩

/-- Of bytes from a place on. -/
theorem readP_out {L : List Int} {at_ : Int} (h : at_ < 0 ∨ (L.length : Int) < at_) : readP L at_ = ([], 0, 2) := by unfold readP; rw [if_pos h]
theorem readP_bad {L : List Int} {a : Nat} {e : Int} (h : a ≤ L.length) (hr : readL (L.drop a) = ([], 0, e)) (he : e ≠ 0) : readP L a = ([], 0, e) := by
  unfold readP
  rw [if_neg (by omega), Int.toNat_natCast, hr, if_neg he]
theorem readP_ok {L p : List Int} {a m : Nat} (h : a ≤ L.length) (hr : readL (L.drop a) = (p, m, 0)) : readP L a = (p, (a : Int) + m, 0) := by
  unfold readP
  rw [if_neg (by omega), Int.toNat_natCast, hr, if_pos rfl]

/-- The ways in which what is left is read. -/
theorem readL_none : readL [] = ([], 0, 12) := rfl
theorem readL_great {R : List Int} (h8 : ¬ R.length < 8) (h : 2097152 < numL R) : readL R = ([], 0, 11) := by
  unfold readL
  rw [if_neg (fun e => by subst e; simp at h8), if_neg h8, if_pos h]
theorem readL_torn {R : List Int} {m : Nat} (h8 : ¬ R.length < 8) (hm : numL R = m) (h : ¬ 2097152 < m) (h' : R.length < 8 + m) : readL R = ([], 0, 10) := by
  unfold readL
  rw [if_neg (fun e => by subst e; simp at h8), if_neg h8, if_neg (by omega), if_pos (by omega)]
theorem readL_sum {R : List Int} {m : Nat} (h8 : ¬ R.length < 8) (hm : numL R = m) (h : ¬ 2097152 < m) (h' : 8 + m ≤ R.length) (hs : numL (R.drop 4) ≠ (sumL (R.take 4 ++ (R.drop 8).take m) : Nat)) : readL R = ([], 0, 11) := by
  have e : (numL R).toNat = m := by omega
  unfold readL
  rw [if_neg (fun e => by subst e; simp at h8), if_neg h8, if_neg (by omega), if_neg (by omega), e, if_pos hs]
theorem readL_good {R : List Int} {m : Nat} (h8 : ¬ R.length < 8) (hm : numL R = m) (h : ¬ 2097152 < m) (h' : 8 + m ≤ R.length) (hs : numL (R.drop 4) = (sumL (R.take 4 ++ (R.drop 8).take m) : Nat)) : readL R = ((R.drop 8).take m, 8 + m, 0) := by
  have e : (numL R).toNat = m := by omega
  unfold readL
  rw [if_neg (fun e => by subst e; simp at h8), if_neg h8, if_neg (by omega), if_neg (by omega), e, if_neg (fun k => k hs)]

theorem in_low {w : World} {A : Option Addr} {L : List Int} {a k c : Nat} (h : In w A L (a + k) c) : ∃ A', (∀ W, (Instr.slice 35 (.slice A (a + k) c) (some (.int .i64 (a : Int))) none none).run Tryz.prog W = .ok (.slice A' k (c - a)) W) ∧ In w A' (L.drop a) k (c - a) := by
  obtain ⟨A', h1, h2⟩ := slice_low h.bys a k c h.len h.cap
  exact ⟨A', h1, by rw [List.length_drop, h.len]; omega, by have := h.cap; omega, by have := h.top; omega, h2, h.byt.drop a⟩
theorem in_high {w : World} {A : Option Addr} {L : List Int} {n k c : Nat} (h : In w A L n c) (hk : k ≤ n) : (∀ W, (Instr.slice 35 (.slice A n c) none (some (.int .i64 (k : Int))) none).run Tryz.prog W = .ok (.slice A k c) W) ∧ In w A (L.take k) k c := by
  obtain ⟨h1, h2⟩ := slice_high h.bys n k c h.len hk h.cap
  exact ⟨h1, by rw [List.length_take, h.len]; omega, by have := h.cap; omega, h.top, h2, h.byt.take k⟩
theorem in_mid {w : World} {A : Option Addr} {L : List Int} {n a k c : Nat} (h : In w A L n c) (hk : a + k ≤ n) : ∃ A', (∀ W, (Instr.slice 35 (.slice A n c) (some (.int .i64 (a : Int))) (some (.int .i64 ((a : Int) + k))) none).run Tryz.prog W = .ok (.slice A' k (c - a)) W) ∧ In w A' ((L.drop a).take k) k (c - a) ∧ (A ≠ none → A' ≠ none) := by
  refine ⟨if c = a then A else A.map (·.add a), fun W => ?_, ⟨by rw [List.length_take, List.length_drop, h.len]; omega, by have := h.cap; omega, by have := h.top; omega, h.bys.part a k c (by rw [h.len]; exact h.cap), (h.byt.drop a).take k⟩, fun hA => ?_⟩
  · have e : ((a : Int) + k).toNat = a + k := by omega
    have hc := h.cap
    rw [run_slice_lh (P := Tryz.prog) W _ A n c under8 .i64 .i64 (a : Int) ((a : Int) + k) (by omega) (by omega) (by omega), size8, e]
    simp [Result.andThen, sliced]
  · split
    · exact hA
    · cases A with
      | none => exact absurd rfl hA
      | some ad => simp
theorem in_some {w : World} {A : Option Addr} {L : List Int} {n c : Nat} (h : In w A L n c) (h0 : 0 < n) : A ≠ none := fun e => by
  subst e
  have := h.len
  rcases h.bys with h | ⟨ad, h, _⟩
  · rw [h] at this
    simp at this
    omega
  · cases h
theorem numL_nat {L : List Int} (h : Byt L) : ∃ y : Nat, numL L = y ∧ y < 4294967296 := by
  obtain ⟨h0, h1⟩ := numL_in L h
  exact ⟨(numL L).toNat, by omega, by omega⟩

set_option maxRecDepth 100000 in
theorem read_out (A : Option Addr) (L : List Int) (n c : Nat) (at_ : Int) (w : World) (h : In w A L n c) (ho : at_ < 0 ∨ (n : Int) < at_) :
    Calls Tryz.prog 53 #[.slice A n c, .int .i64 at_] w (Got w (readP L at_)) := by
  have HE := Lib.hid (readP_out (L := L) (at_ := at_) (by rw [h.len]; exact ho))
  clear h
  by_cases h0 : at_ < 0
  · clear ho
    go_enter Tryz.func53, Tryz.ntmps53
    go_wp2
    go_ret3
    exact got_none _ _ _ HE.out _ (Below.refl _ _)
  · have h1 : (n : Int) < at_ := by omega
    have h0' : decide (at_ < 0) = false := by simpa using h0
    clear ho
    go_enter Tryz.func53, Tryz.ntmps53
    go_wp2
    go_ret3
    exact got_none _ _ _ HE.out _ (Below.refl _ _)

set_option maxRecDepth 100000 in
set_option maxHeartbeats 2000000 in
theorem read_few (A : Option Addr) (L : List Int) (a k c : Nat) (w : World) (h : In w A L (a + k) c) (hk : k < 8) :
    Calls Tryz.prog 53 #[.slice A (a + k) c, .int .i64 (a : Int)] w (Got w (readP L a)) := by
  obtain ⟨A1, s1, i1⟩ := in_low h
  have ha0 : decide ((a : Int) < 0) = false := by simp
  have ha1 : decide (((a + k : Nat) : Int) < (a : Int)) = false := by simp; omega
  have hlen := h.len
  have hl1 := i1.len
  by_cases hz : k = 0
  · have hz' : ((k : Int) == 0) = true := by simp; omega
    have HE := Lib.hid (readP_bad (L := L) (a := a) (e := 12) (by omega) (by rw [List.drop_of_length_le (by omega)]; rfl) (by decide))
    clear h i1 hlen hl1 hz
    go_enter Tryz.func53, Tryz.ntmps53
    go_wp2_with fail
    go_ret3
    exact got_none _ _ _ HE.out _ (Below.refl _ _)
  · have HE := Lib.hid (readP_bad (L := L) (a := a) (e := 10) (by omega) (readL_few _ (fun e => by rw [e] at hl1; simp at hl1; omega) (by omega)) (by decide))
    have hk' : (k : Int) < 8 := by omega
    have hz' : ((k : Int) == 0) = false := by simp; omega
    clear h i1 hlen hl1 hz
    go_enter Tryz.func53, Tryz.ntmps53
    go_wp2_with fail
    go_ret3
    exact got_none _ _ _ HE.out _ (Below.refl _ _)

set_option maxRecDepth 100000 in
set_option maxHeartbeats 2000000 in
theorem read_in (A : Option Addr) (L : List Int) (a k c : Nat) (w : World) (h : In w A L (a + k) c) (hk : ¬ k < 8) :
    Calls Tryz.prog 53 #[.slice A (a + k) c, .int .i64 (a : Int)] w (Got w (readP L a)) := by
  obtain ⟨A1, s1, i1⟩ := in_low h
  have ha0 : decide ((a : Int) < 0) = false := by simp
  have ha1 : decide (((a + k : Nat) : Int) < (a : Int)) = false := by simp; omega
  have hz' : ((k : Int) == 0) = false := by simp; omega
  have hk' : decide ((k : Int) < 8) = false := by simp; omega
  have haL : Hid (a ≤ L.length) := Lib.hid (by rw [h.len]; omega)
  have htop : Hid ((a : Int) + k ≤ 9223372036854775807) := Lib.hid (by have := h.cap; have := h.top; omega)
  obtain ⟨R, hR⟩ : ∃ R, L.drop a = R := ⟨_, rfl⟩
  have HR := Lib.hid hR
  rw [hR] at i1
  have W1 := Lib.hid (word_any A1 R k (c - a) w i1 (by omega))
  have I1 := Lib.hid i1
  obtain ⟨hm0, hm1⟩ := numL_in R i1.byt
  obtain ⟨m, hm⟩ := Int.eq_ofNat_of_zero_le hm0
  have HM := Lib.hid hm
  have R8 : Hid (¬ R.length < 8) := Lib.hid (by rw [i1.len]; exact hk)
  rw [hm] at W1
  clear h hR i1 hm hm0 hm1 hk
  by_cases hl : 2097152 < m
  · have hl' : (2097152 : Int) < m := by omega
    have HE := Lib.hid (readP_bad (L := L) haL.out (by rw [HR.out]; exact readL_great R8.out (by rw [HM.out]; exact hl')) (by decide))
    clear hl
    go_enter Tryz.func53, Tryz.ntmps53
    go_wp2_with (go_at_call 72; refine W1.out.mono ?_; rintro e w1 ⟨rfl, hw⟩; subst hw)
    go_ret3
    exact got_none _ _ _ HE.out _ (Below.refl _ _)
  · have hl' : ¬ (2097152 : Int) < m := by omega
    have hm2 : (m : Int) ≤ 2097152 := by omega
    by_cases ht : k < 8 + m
    · have ht' : (k : Int) < 8 + m := by omega
      have HE := Lib.hid (readP_bad (L := L) haL.out (by rw [HR.out]; exact readL_torn R8.out HM.out hl (by rw [I1.out.len]; exact ht)) (by decide))
      go_enter Tryz.func53, Tryz.ntmps53
      go_wp2_with (go_at_call 72; refine W1.out.mono ?_; rintro e w1 ⟨rfl, hw⟩; subst hw)
      go_ret3
      exact got_none _ _ _ HE.out _ (Below.refl _ _)
    · have ht' : ¬ (k : Int) < 8 + m := by omega
      obtain ⟨A2, z2, i2, z5⟩ := in_mid I1.out (a := 8) (k := m) (by omega)
      have HA := Lib.hid (z5 (in_some I1.out (by omega)))
      have s2 : ∀ W, (Instr.slice 35 (.slice A1 k (c - a)) (some (.int .i64 8)) (some (.int .i64 (8 + (m : Int)))) none).run Tryz.prog W = .ok (.slice A2 m (c - a - 8)) W := z2
      obtain ⟨A3, z3, i3⟩ := in_low (a := 4) (k := k - 4) (show In w A1 R (4 + (k - 4)) (c - a) by rw [show 4 + (k - 4) = k by omega]; exact I1.out)
      rw [show 4 + (k - 4) = k by omega] at z3
      have s3 : ∀ W, (Instr.slice 35 (.slice A1 k (c - a)) (some (.int .i64 4)) none none).run Tryz.prog W = .ok (.slice A3 (k - 4) (c - a - 4)) W := z3
      obtain ⟨z4, i4⟩ := in_high I1.out (k := 4) (by omega)
      have s4 : ∀ W, (Instr.slice 35 (.slice A1 k (c - a)) none (some (.int .i64 4)) none).run Tryz.prog W = .ok (.slice A1 4 (c - a)) W := z4
      have I2 := Lib.hid i2
      have I3 := Lib.hid i3
      have I4 := Lib.hid i4
      have HT := Lib.hid (And.intro ht hl)
      obtain ⟨y, hy, -⟩ := numL_nat i3.byt
      obtain ⟨S, hS⟩ : ∃ S, sumL (R.take 4 ++ (R.drop 8).take m) = S := ⟨_, rfl⟩
      have W3 := Lib.hid (word_any A3 (R.drop 4) (k - 4) (c - a - 4) w.drew (i3.kept (Below.refl _ w).drew) (by omega))
      have W3' := Lib.hid (word_any A3 (R.drop 4) (k - 4) (c - a - 4) (w.drew.alloc (.cells #[.slice A1 4 (c - a), .slice A2 m (c - a - 8)] 35)) (i3.kept (((Below.refl _ w).drew).alloc (Nat.le_refl _) _)) (by omega))
      have S3 : Hid (Calls Tryz.prog 41 #[.slice (some ⟨w.heap.size, 0, none⟩) 2 2] (w.drew.alloc (.cells #[.slice A1 4 (c - a), .slice A2 m (c - a - 8)] 35)) fun e w' => e = .returned (.int .u32 (S : Nat)) ∧ w.drew.alloc (.cells #[.slice A1 4 (c - a), .slice A2 m (c - a - 8)] 35) = w') := Lib.hid (by
        have hB : Below w.heap.size w (w.drew.alloc (.cells #[.slice A1 4 (c - a), .slice A2 m (c - a - 8)] 35)) := ((Below.refl _ w).drew).alloc (Nat.le_refl _) _
        have := sumOf_any (some ⟨w.heap.size, 0, none⟩) [⟨A1, c - a, R.take 4⟩, ⟨A2, c - a - 8, (R.drop 8).take m⟩] 2 2 _ rfl (by decide) (lit_lies w.drew _ _ (by simp only [svals, Sl.val, List.map, i4.len, i2.len]) _)
          (AllIn.cons (i4.of_n.kept hB) (AllIn.cons (i2.of_n.kept hB) (AllIn.nil _)))
        have e : (byts [⟨A1, c - a, R.take 4⟩, ⟨A2, c - a - 8, (R.drop 8).take m⟩]).flatten = R.take 4 ++ (R.drop 8).take m := by simp [byts]
        rw [e, hS] at this
        exact this)
      rw [hy] at W3 W3'
      have HY := Lib.hid hy
      have HS := Lib.hid hS
      have HW : Hid (wrap64 ((a : Int) + (8 + (m : Int))) = (a : Int) + ((8 + m : Nat) : Int)) := Lib.hid (by have := htop.out; unfold wrap64; omega)
      have BX : Hid (Below w.heap.size w (w.drew.alloc (.cells #[.slice A1 4 (c - a), .slice A2 m (c - a - 8)] 35))) := Lib.hid (((Below.refl _ w).drew).alloc (Nat.le_refl _) _)
      have CL := Lib.hid (longer_n (cloneF_any A2 ((R.drop 8).take m) m (c - a - 8) (w.drew.alloc (.cells #[.slice A1 4 (c - a), .slice A2 m (c - a - 8)] 35)) HA.out i2.len (i2.kept BX.out).bys (by rw [i2.len]; omega)) rfl i2.len)
      clear z2 z3 z4 z5 i2 i3 i4 ht hl hy hS
      by_cases hs : y = S
      · have hs' : ((y : Int) == (S : Int)) = true := by simp [hs]
        have HE := Lib.hid (readP_ok (L := L) haL.out (by rw [HR.out]; exact readL_good R8.out HM.out HT.out.2 (by rw [I1.out.len]; have := HT.out.1; omega) (by rw [HY.out, HS.out, hs])))
        clear hs
        go_enter Tryz.func53, Tryz.ntmps53
        go_upto_region 15 with (go_at_call 72; refine W1.out.mono ?_; rintro e w1 ⟨rfl, hw⟩; subst hw)
        clear s1 s2 W1
        go_region_with (first
          | (go_at_call 72; refine W3.out.mono ?_; rintro e w1 ⟨rfl, hw⟩; subst hw)
          | (go_at_call 72; refine W3'.out.mono ?_; rintro e w1 ⟨rfl, hw⟩; subst hw)
          | (go_at_call 41; refine S3.out.mono ?_; rintro e w1 ⟨rfl, hw⟩; subst hw))
        all_goals
          go_wp2_with (go_at_call 30; refine CL.out.mono ?_; rintro e w5 ⟨A5, c5, rfl, r5, b5⟩; have R5 := Lib.hid r5; have B5 := Lib.hid (below_then BX.out b5); clear r5 b5)
          go_ret3
          rw [HE.out]
          refine ⟨A5, c5, ?_, R5.out.mono BX.out.size, B5.out⟩
          show Ending.returned (.tuple #[.slice A5 m c5, .int .i64 (wrap64 ((a : Int) + (8 + (m : Int)))), .int .i64 0]) = .returned (.tuple #[.slice A5 ((R.drop 8).take m).length c5, .int .i64 ((a : Int) + ((8 + m : Nat) : Int)), .int .i64 0])
          rw [I2.out.len, HW.out]
      · have hs' : ((y : Int) == (S : Int)) = false := by simp; omega
        have HE := Lib.hid (readP_bad (L := L) haL.out (by rw [HR.out]; exact readL_sum R8.out HM.out HT.out.2 (by rw [I1.out.len]; have := HT.out.1; omega) (by rw [HY.out, HS.out]; omega)) (by decide))
        clear hs CL
        go_enter Tryz.func53, Tryz.ntmps53
        go_upto_region 15 with (go_at_call 72; refine W1.out.mono ?_; rintro e w1 ⟨rfl, hw⟩; subst hw)
        clear s1 s2 W1
        go_region_with (first
          | (go_at_call 72; refine W3.out.mono ?_; rintro e w1 ⟨rfl, hw⟩; subst hw)
          | (go_at_call 72; refine W3'.out.mono ?_; rintro e w1 ⟨rfl, hw⟩; subst hw)
          | (go_at_call 41; refine S3.out.mono ?_; rintro e w1 ⟨rfl, hw⟩; subst hw))
        all_goals
          go_wp2_with fail
          go_ret3
          exact got_none _ _ _ HE.out _ BX.out

theorem readF_any (A : Option Addr) (L : List Int) (n c : Nat) (at_ : Int) (w : World) (h : In w A L n c) :
    Calls Tryz.prog 53 #[.slice A n c, .int .i64 at_] w (Got w (readP L at_)) := by
  by_cases g : at_ < 0 ∨ (n : Int) < at_
  · exact read_out A L n c at_ w h g
  · obtain ⟨a, rfl⟩ := Int.eq_ofNat_of_zero_le (a := at_) (by omega)
    obtain ⟨k, rfl⟩ : ∃ k, n = a + k := ⟨n - a, by omega⟩
    by_cases hk : k < 8
    · exact read_few A L a k c w h hk
    · exact read_in A L a k c w h hk

end Go.Proofs.YtjppklgegpmfpaaGreatDoor
