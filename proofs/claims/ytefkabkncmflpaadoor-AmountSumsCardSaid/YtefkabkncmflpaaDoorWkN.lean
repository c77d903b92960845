/-
  Walks over twenty digits: Of, Size, Cmp, Plus, Minus.
-/
import Derived.Test.YtefkabkncmflpaaDoorNat
import Derived.Test.YtefkabkncmflpaaDoorDigits
namespace Go.Proofs.YtefkabkncmflpaaDoor
open Go.RowKit

set_option maxRecDepth 100000 in
set_option maxHeartbeats 1000000 in
theorem plus_any (a b : Nat → Int) (w : World) (ha : InR a) (hb : InR b) :
    Calls Tryd.prog 48 #[.agg (nat20 a), .agg (nat20 b)] w fun e w' => e = .returned (.agg (nat20 (pd a b))) ∧ Below w.heap.size w w' := by
  go_enter Tryd.func48, Tryd.ntmps48
  go_wp2_with fail
  go_loopw [5, 6] (fun t5 t6 wr => ∃ k : Nat, k ≤ 20 ∧ t5 = .int .u64 (pc a b k) ∧ t6 = .int .i64 k ∧ wr.rowIs w.heap.size 58 20 (dig fun i => if i < k then pd a b i else a i) ∧ wr.rowIs (w.heap.size + 1) 58 20 (dig b) ∧ wr.rowIs (w.heap.size + 1 + 1) 58 20 (dig fun _ => 0) ∧ Below w.heap.size w wr) (fun _ t6 _ => 20 - (intOf t6).toNat)
  case atStart =>
    rw [zeros20]
    refine ⟨0, by omega, rfl, rfl, ?_, ?_, ?_, ?_⟩
    · exact (((row_new w a).alloc _).alloc _).congr fun i _ => by simp [dig]
    · have := ((row_new (w.alloc (.cells (nat20 a) 58)) b).alloc (.cells (nat20 fun _ => 0) 58))
      simpa using this
    · have := row_new ((w.alloc (.cells (nat20 a) 58)).alloc (.cells (nat20 b) 58)) (fun _ => 0)
      simpa using this
    · exact (((Below.refl _ _).alloc (Nat.le_refl _) _).alloc (by simp) _).alloc (by simp; omega) _
  case round =>
    obtain ⟨k, hk, rfl, rfl, r1, r2, r3, hbl⟩ := hrel
    by_cases hlt : k < 20
    · have c1 := r1.cell hlt
      have c2 := r2.cell hlt
      simp only [dig, if_neg (Nat.lt_irrefl k)] at c1 c2
      have f1 := r1.frozen k
      have pb := pc_bd a b k (fun i hi => ha i (by omega)) (fun i hi => hb i (by omega))
      have hab := ha k hlt
      have hbb := hb k hlt
      have hpc : pc a b (k + 1) = (a k + b k + pc a b k) / 65536 := rfl
      have hpd : pd a b k = (a k + b k + pc a b k) % 65536 := rfl
      have HPC := Lib.hid hpc
      have HPD := Lib.hid hpd
      clear hpc hpd
      have R1 := Lib.hid r1
      have R2 := Lib.hid r2
      have R3 := Lib.hid r3
      clear r1 r2 r3
      generalize ex : a k = x at *
      generalize ey : b k = y at *
      generalize ec : pc a b k = c at *
      clear ex ey ec
      obtain ⟨pb1, pb2⟩ := pb
      obtain ⟨ha1, ha2⟩ := hab
      obtain ⟨hb1, hb2⟩ := hbb
      go_wp2
      go_quiet (fail)
      go_wp2
      go_roundw
      case rel =>
        refine ⟨k + 1, by omega, ?_, by go_num, ?_, ?_, ?_, ?_⟩
        · rw [HPC.out]
        · refine row_put R1.out nq k _ fun i hi => ?_
          by_cases h1 : i = k
          · subst h1; rw [if_pos (by omega), if_pos rfl, HPD.out]
          · rw [if_neg h1]
            by_cases h2 : i < k
            · rw [if_pos (by omega), if_pos h2]
            · rw [if_neg (by omega), if_neg h2]
        · exact row_put_other R2.out nq _ (by omega)
        · exact row_put_other R3.out nq _ (by omega)
        · exact below_put hbl nq (Nat.le_refl _) _
      case measure => simp [intOf]; omega
    · obtain rfl : k = 20 := by omega
      have r4 := row_of _ _ _ r1
      have hf : nat20 (fun i => if i < 20 then pd a b i else a i) = nat20 (pd a b) := nat20_congr _ _ fun i hi => by simp [hi]
      rw [hf] at r4
      have r5 := row_of _ _ _ r3
      clear r1 r2 r3 hf
      go_wp2_with (first | (with_reducible refine wpList_load_row rfl 58 _ rfl w.heap.size rfl 58 _ (0, 0) _ r4 Tryd.underlying58 rfl (by kernel_rfl) ?_) | (with_reducible refine wpList_store_row rfl 58 _ _ rfl (w.heap.size + 1 + 1) _ rfl rfl 58 _ r5 (by kernel_rfl) (by kernel_rfl) (by kernel_rfl) ?_))
      exact bodyPost_ret (v := .agg (nat20 (pd a b))) (ret20 rfl _ _ _ _ _ rfl r5) rfl ⟨rfl, below_setRow hbl (by omega) _⟩

set_option maxRecDepth 100000 in
set_option maxHeartbeats 1000000 in
theorem minus_any (a b : Nat → Int) (w : World) (ha : InR a) (hb : InR b) :
    Calls Tryd.prog 54 #[.agg (nat20 a), .agg (nat20 b)] w fun e w' => e = .returned (.agg (nat20 (md a b))) ∧ Below w.heap.size w w' := by
  go_enter Tryd.func54, Tryd.ntmps54
  go_wp2_with fail
  go_loopw [5, 6] (fun t5 t6 wr => ∃ k : Nat, k ≤ 20 ∧ t5 = .int .u64 (mb a b k) ∧ t6 = .int .i64 k ∧ wr.rowIs w.heap.size 58 20 (dig fun i => if i < k then md a b i else a i) ∧ wr.rowIs (w.heap.size + 1) 58 20 (dig b) ∧ wr.rowIs (w.heap.size + 1 + 1) 58 20 (dig fun _ => 0) ∧ Below w.heap.size w wr) (fun _ t6 _ => 20 - (intOf t6).toNat)
  case atStart =>
    rw [zeros20]
    refine ⟨0, by omega, rfl, rfl, ?_, ?_, ?_, ?_⟩
    · exact (((row_new w a).alloc _).alloc _).congr fun i _ => by simp [dig]
    · have := ((row_new (w.alloc (.cells (nat20 a) 58)) b).alloc (.cells (nat20 fun _ => 0) 58))
      simpa using this
    · have := row_new ((w.alloc (.cells (nat20 a) 58)).alloc (.cells (nat20 b) 58)) (fun _ => 0)
      simpa using this
    · exact (((Below.refl _ _).alloc (Nat.le_refl _) _).alloc (by simp) _).alloc (by simp; omega) _
  case round =>
    obtain ⟨k, hk, rfl, rfl, r1, r2, r3, hbl⟩ := hrel
    by_cases hlt : k < 20
    · have c1 := r1.cell hlt
      have c2 := r2.cell hlt
      simp only [dig, if_neg (Nat.lt_irrefl k)] at c1 c2
      have f1 := r1.frozen k
      have pb := mb_bd a b k (fun i hi => ha i (by omega)) (fun i hi => hb i (by omega))
      have hab := ha k hlt
      have hbb := hb k hlt
      have hpc : mb a b (k + 1) = 1 - (65536 + a k - b k - mb a b k) / 65536 := rfl
      have hpd : md a b k = (65536 + a k - b k - mb a b k) % 65536 := rfl
      have HPC := Lib.hid hpc
      have HPD := Lib.hid hpd
      clear hpc hpd
      have R1 := Lib.hid r1
      have R2 := Lib.hid r2
      have R3 := Lib.hid r3
      clear r1 r2 r3
      generalize ex : a k = x at *
      generalize ey : b k = y at *
      generalize ec : mb a b k = c at *
      clear ex ey ec
      obtain ⟨pb1, pb2⟩ := pb
      obtain ⟨ha1, ha2⟩ := hab
      obtain ⟨hb1, hb2⟩ := hbb
      go_wp2
      go_quiet (fail)
      go_wp2
      go_roundw
      case rel =>
        refine ⟨k + 1, by omega, ?_, by go_num, ?_, ?_, ?_, ?_⟩
        · rw [HPC.out]
        · refine row_put R1.out nq k _ fun i hi => ?_
          by_cases h1 : i = k
          · subst h1; rw [if_pos (by omega), if_pos rfl, HPD.out]
          · rw [if_neg h1]
            by_cases h2 : i < k
            · rw [if_pos (by omega), if_pos h2]
            · rw [if_neg (by omega), if_neg h2]
        · exact row_put_other R2.out nq _ (by omega)
        · exact row_put_other R3.out nq _ (by omega)
        · exact below_put hbl nq (Nat.le_refl _) _
      case measure => simp [intOf]; omega
    · obtain rfl : k = 20 := by omega
      have r4 := row_of _ _ _ r1
      have hf : nat20 (fun i => if i < 20 then md a b i else a i) = nat20 (md a b) := nat20_congr _ _ fun i hi => by simp [hi]
      rw [hf] at r4
      have r5 := row_of _ _ _ r3
      clear r1 r2 r3 hf
      go_wp2_with (first | (with_reducible refine wpList_load_row rfl 58 _ rfl w.heap.size rfl 58 _ (0, 0) _ r4 Tryd.underlying58 rfl (by kernel_rfl) ?_) | (with_reducible refine wpList_store_row rfl 58 _ _ rfl (w.heap.size + 1 + 1) _ rfl rfl 58 _ r5 (by kernel_rfl) (by kernel_rfl) (by kernel_rfl) ?_))
      exact bodyPost_ret (v := .agg (nat20 (md a b))) (ret20 rfl _ _ _ _ _ rfl r5) rfl ⟨rfl, below_setRow hbl (by omega) _⟩

/-- -1, 0 or 1. -/
def cmpV (a b : Nat → Int) : Int := if val a 20 < val b 20 then -1 else if val b 20 < val a 20 then 1 else 0

set_option maxRecDepth 100000 in
set_option maxHeartbeats 1000000 in
theorem cmp_any (a b : Nat → Int) (w : World) (ha : InR a) (hb : InR b) :
    Calls Tryd.prog 41 #[.agg (nat20 a), .agg (nat20 b)] w fun e w' => e = .returned (.int .i64 (cmpV a b)) ∧ Below w.heap.size w w' := by
  go_enter Tryd.func41, Tryd.ntmps41
  go_wp2_with fail
  go_loopw [5] (fun t5 wr => ∃ z : Int, t5 = .int .i64 z ∧ -1 ≤ z ∧ z ≤ 19 ∧ Hid (SameFrom a b (z + 1).toNat) ∧ wr.rowIs w.heap.size 58 20 (dig a) ∧ wr.rowIs (w.heap.size + 1) 58 20 (dig b) ∧ Below w.heap.size w wr) (fun t5 _ => (intOf t5 + 1).toNat)
  case atStart =>
    refine ⟨19, rfl, by omega, by omega, (show SameFrom _ _ _ from fun i h1 h2 => absurd h1 (by omega)), (row_new w a).alloc _, ?_, ?_⟩
    · have := row_new (w.alloc (.cells (nat20 a) 58)) b
      simpa using this
    · exact ((Below.refl _ _).alloc (Nat.le_refl _) _).alloc (by simp) _
  case round =>
    obtain ⟨z, rfl, z0, z1, hs, r1, r2, hbl⟩ := hrel
    by_cases hz : 0 ≤ z
    · obtain ⟨k, rfl⟩ : ∃ k : Nat, z = k := ⟨z.toNat, by omega⟩
      have hlt : k < 20 := by omega
      have c1 := r1.cell hlt
      have c2 := r2.cell hlt
      simp only [dig] at c1 c2
      have R1 := Lib.hid r1
      have R2 := Lib.hid r2
      clear r1 r2
      have hab := ha k hlt
      have hbb := hb k hlt
      have L1 := Lib.hid (fun h => lt_of_digit a b ha hb k hlt hs.out h)
      have L2 := Lib.hid (fun h => lt_of_digit b a hb ha k hlt (fun i h1 h2 => (hs.out i h1 h2).symm) h)
      have L3 := Lib.hid (show a k = b k → SameFrom a b k from fun h i h1 h2 => by
        by_cases e : i = k
        · rw [e]; exact h
        · exact hs.out i (by omega) h2)
      generalize ex : a k = x at *
      generalize ey : b k = y at *
      clear ex ey
      rcases Int.lt_trichotomy x y with h | h | h
      · have F := Lib.hid (show cmpV a b = -1 by unfold cmpV; rw [if_pos (L1.out h)])
        go_wp2
        go_quiet (fail)
        go_wp2
        go_ret
        exact ⟨by rw [F.out]; rfl, by first | exact hbl.trans (drewN_below _ _ _) | exact (hbl.trans (drewN_below _ _ _)).trans (drewN_below _ _ _)⟩
      · subst h
        have S := L3.out rfl
        have HS := Lib.hid S
        clear S L1 L2 L3
        go_wp2
        go_quiet (fail)
        go_wp2
        go_quiet (fail)
        go_wp2
        go_roundw
        case rel =>
          refine ⟨(k : Int) - 1, by go_num, by omega, by omega, ?_, ?_, ?_, ?_⟩
          · rw [show ((k : Int) - 1 + 1).toNat = k by omega]; exact HS
          · exact row_drewN R1.out _
          · exact row_drewN R2.out _
          · exact hbl.trans (drewN_below _ _ _)
        case measure => simp [intOf]
      · have F := Lib.hid (show cmpV a b = 1 by have := L2.out h; unfold cmpV; rw [if_neg (by omega), if_pos this])
        go_wp2
        go_quiet (fail)
        go_wp2
        go_quiet (fail)
        go_wp2
        go_ret
        exact ⟨by rw [F.out]; rfl, by first | exact hbl.trans (drewN_below _ _ _) | exact (hbl.trans (drewN_below _ _ _)).trans (drewN_below _ _ _)⟩
    · obtain rfl : z = -1 := by omega
      have e := eq_of_same a b hs.out
      have F := Lib.hid (show cmpV a b = 0 by unfold cmpV; rw [e]; simp)
      clear e r1 r2
      go_wp2
      go_ret
      exact ⟨by rw [F.out]; rfl, hbl⟩

/-- The digits of a word. -/
def ofQ (v : Int) : Nat → Int
  | 0 => v
  | k + 1 => ofQ v k / 65536
def ofD (v : Int) (i : Nat) : Int := if i < 4 then ofQ v i % 65536 else 0
theorem ofQ_bd (v : Int) (h0 : 0 ≤ v) (h1 : v < 18446744073709551616) (k : Nat) : 0 ≤ ofQ v k ∧ ofQ v k < 18446744073709551616 := by
  induction k with
  | zero => exact ⟨h0, h1⟩
  | succ k ih => rw [ofQ]; omega
theorem ofD_in (v : Int) : InR (ofD v) := fun i _ => by unfold ofD; split <;> omega
theorem ofD_val (v : Int) (h0 : 0 ≤ v) (h1 : v < 18446744073709551616) : val (ofD v) 20 = v := by
  simp [val, ofD, ofQ]; omega

set_option maxRecDepth 100000 in
set_option maxHeartbeats 1000000 in
theorem of_any (v : Int) (w : World) (h0 : 0 ≤ v) (h1 : v < 18446744073709551616) :
    Calls Tryd.prog 37 #[.int .u64 v] w fun e w' => e = .returned (.agg (nat20 (ofD v))) ∧ Below w.heap.size w w' := by
  go_enter Tryd.func37, Tryd.ntmps37
  go_wp2_with fail
  go_loopw [0, 4] (fun t0 t4 wr => ∃ k : Nat, k ≤ 4 ∧ t0 = .int .u64 (ofQ v k) ∧ t4 = .int .i64 k ∧ wr.rowIs w.heap.size 58 20 (dig fun _ => 0) ∧ wr.rowIs (w.heap.size + 1) 58 20 (dig fun i => if i < k then ofQ v i % 65536 else 0) ∧ Below w.heap.size w wr) (fun _ t4 _ => 4 - (intOf t4).toNat)
  case atStart =>
    rw [zeros20]
    refine ⟨0, by omega, rfl, rfl, (row_new w _).alloc _, ?_, ?_⟩
    · have := row_new (w.alloc (.cells (nat20 fun _ => 0) 58)) (fun _ => 0)
      simpa using this
    · exact ((Below.refl _ _).alloc (Nat.le_refl _) _).alloc (by simp) _
  case round =>
    obtain ⟨k, hk, rfl, rfl, r1, r2, hbl⟩ := hrel
    by_cases hlt : k < 4
    · have hlt2 : k < 20 := by omega
      have c2 := r2.cell hlt2
      simp only [dig, if_neg (Nat.lt_irrefl k)] at c2
      have f2 := r2.frozen k
      obtain ⟨q0, q1⟩ := ofQ_bd v h0 h1 k
      have HQ := Lib.hid (show ofQ v (k + 1) = ofQ v k / 65536 from rfl)
      have HD := Lib.hid (show ofQ v k = ofQ v k from rfl)
      have R1 := Lib.hid r1
      have R2 := Lib.hid r2
      clear r1 r2 hlt2
      generalize ex : ofQ v k = x at HQ HD q0 q1 ⊢
      have HX := Lib.hid ex
      clear ex HD
      go_wp2
      go_roundw
      case rel =>
        refine ⟨k + 1, by omega, by rw [HQ.out], by go_num, ?_, ?_, ?_⟩
        · exact R1.out.setOther (by simp) _
        · refine row_put0 R2.out k _ fun i hi => ?_
          by_cases h1 : i = k
          · subst h1; rw [if_pos (by omega), if_pos rfl, HX.out]
          · rw [if_neg h1]
            by_cases h2 : i < k
            · rw [if_pos (by omega), if_pos h2]
            · rw [if_neg (by omega), if_neg h2]
        · exact hbl.setCell (by simp) _
      case measure => simp [intOf]; omega
    · obtain rfl : k = 4 := by omega
      have r4 := row_of _ _ _ r2
      rw [show (fun i => if i < 4 then ofQ v i % 65536 else 0) = ofD v from rfl] at r4
      have r5 := row_of _ _ _ r1
      clear r1 r2
      go_wp2_with (first | (with_reducible refine wpList_load_row rfl 58 _ rfl (w.heap.size + 1) rfl 58 _ (0, 0) _ r4 Tryd.underlying58 rfl (by kernel_rfl) ?_) | (with_reducible refine wpList_store_row rfl 58 _ _ rfl w.heap.size _ rfl rfl 58 _ r5 (by kernel_rfl) (by kernel_rfl) (by kernel_rfl) ?_))
      exact bodyPost_ret (v := .agg (nat20 (ofD v))) (ret20 rfl _ _ _ _ _ rfl r5) rfl ⟨rfl, below_setRow hbl (by omega) _⟩

end Go.Proofs.YtefkabkncmflpaaDoor
