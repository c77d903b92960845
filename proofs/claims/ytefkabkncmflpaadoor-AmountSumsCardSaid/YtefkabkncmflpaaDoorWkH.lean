/-
  Walks: weigh, share, Split.
-/
import Derived.Test.YtefkabkncmflpaaDoorWkG
import Derived.Test.YtefkabkncmflpaaDoorShare
namespace Go.Proofs.YtefkabkncmflpaaDoor
open Go.RowKit Go.Sort Go.Shelf

theorem bd_mul (a b : Int) (ha : 0 ≤ a ∧ a ≤ 1000000000000000) (hb : 0 ≤ b ∧ b ≤ 1000000000) : 0 ≤ a * b ∧ a * b < 18446744073709551616 * 1000000000 := by
  have := mul_lt a b 1000000000000000 1000000000 ha.1 ha.2 hb.1 hb.2
  omega

set_option maxHeartbeats 1000000 in
theorem weigh_yes (wt : Nat → Int) (bw n cw : Nat) (w : World) (hn : n ≤ 1024) (hc : ∀ i, i < n → w.cell? ⟨bw, i, none⟩ = some (.int .i64 (wt i))) (hw : ∀ i, i < n → 0 ≤ wt i ∧ wt i ≤ 1000000000) :
    Calls Tryd.prog 38 #[.slice (some ⟨bw, 0, none⟩) n cw] w fun e w' => e = .returned (.tuple #[.int .u64 (sumTo wt n), .bool (decide (0 < sumTo wt n))]) ∧ w = w' := by
  have HC := Lib.hid hc
  have HW := Lib.hid hw
  clear hc hw
  go_enter Tryd.func38, Tryd.ntmps38
  go_wp2_with fail
  go_loop [4, 9] (fun t4 t9 => ∃ k : Nat, k ≤ n ∧ t4 = .int .u64 (sumTo wt k) ∧ t9 = .int .i64 k) (fun _ t9 => n - (intOf t9).toNat)
  case atStart => exact ⟨0, by omega, rfl, rfl⟩
  case round =>
    obtain ⟨k, hk, rfl, rfl⟩ := hrel
    have s0 : 0 ≤ sumTo wt k := sumTo_nonneg fun i hi => (HW.out i (by omega)).1
    have s1 : sumTo wt k ≤ k * 1000000000 := sumTo_le _ fun i hi => (HW.out i (by omega)).2
    have s2 : sumTo wt k ≤ 1024000000000 := by omega
    clear s1
    by_cases hlt : k < n
    · have c1 := HC.out k hlt
      obtain ⟨x0, x1⟩ := HW.out k hlt
      have HS := Lib.hid (show sumTo wt (k + 1) = sumTo wt k + wt k from rfl)
      generalize ex : wt k = x at c1 x0 x1 HS
      have hkn : (k : Int) < n := by omega
      have hn' : (n : Int) ≤ 1024 := by omega
      generalize sumTo wt k = s at *
      clear ex
      go_wp2
      go_round
      case rel => exact ⟨k + 1, by omega, by rw [HS.out], by go_num⟩
      case measure => simp [intOf]; omega
    · obtain rfl : k = n := by omega
      go_wp2
      go_ret2
      exact ⟨rfl, rfl⟩

set_option maxHeartbeats 1000000 in
theorem weigh_no (wt : Nat → Int) (bw n cw j : Nat) (w : World) (hn : n ≤ 1024) (hc : ∀ i, i < n → w.cell? ⟨bw, i, none⟩ = some (.int .i64 (wt i))) (hj : j < n) (hw : ∀ i, i < j → 0 ≤ wt i ∧ wt i ≤ 1000000000) (hb : wt j < 0 ∨ 1000000000 < wt j) :
    Calls Tryd.prog 38 #[.slice (some ⟨bw, 0, none⟩) n cw] w fun e w' => e = .returned (.tuple #[.int .u64 0, .bool false]) ∧ w = w' := by
  have HC := Lib.hid hc
  have HW := Lib.hid hw
  have HB := Lib.hid hb
  clear hc hw hb
  go_enter Tryd.func38, Tryd.ntmps38
  go_wp2_with fail
  go_loop [4, 9] (fun t4 t9 => ∃ k : Nat, k ≤ j ∧ t4 = .int .u64 (sumTo wt k) ∧ t9 = .int .i64 k) (fun _ t9 => n - (intOf t9).toNat)
  case atStart => exact ⟨0, by omega, rfl, rfl⟩
  case round =>
    obtain ⟨k, hk, rfl, rfl⟩ := hrel
    have s0 : 0 ≤ sumTo wt k := sumTo_nonneg fun i hi => (HW.out i (by omega)).1
    have s1 : sumTo wt k ≤ k * 1000000000 := sumTo_le _ fun i hi => (HW.out i (by omega)).2
    have s2 : sumTo wt k ≤ 1024000000000 := by omega
    clear s1
    have hlt : k < n := by omega
    have c1 := HC.out k hlt
    have HS := Lib.hid (show sumTo wt (k + 1) = sumTo wt k + wt k from rfl)
    have hkn : (k : Int) < n := by omega
    have hn' : (n : Int) ≤ 1024 := by omega
    by_cases hkj : k < j
    · obtain ⟨x0, x1⟩ := HW.out k hkj
      generalize ex : wt k = x at c1 x0 x1 HS
      generalize sumTo wt k = s at *
      clear ex
      go_wp2
      go_round
      case rel => exact ⟨k + 1, by omega, by rw [HS.out], by go_num⟩
      case measure => simp [intOf]; omega
    · obtain rfl : k = j := by omega
      have hb := HB.out
      generalize wt k = x at c1 hb
      clear HS
      rcases hb with hb | hb
      · go_wp2
        go_ret2
        exact ⟨rfl, rfl⟩
      · have hx0 : 0 ≤ x := by omega
        go_wp2
        go_ret2
        exact ⟨rfl, rfl⟩

/-- What greatestFirst does with m + 1 rests. -/
def Greatest (m : Nat) : Prop := ∀ (r : Pl m → Int) (gr cap M : Nat), m + 1 = M → ∀ w : World, gr < w.heap.size → (∀ i : Pl m, w.cell? ⟨gr, i.val, none⟩ = some (.int .u64 (r i))) →
    Calls Tryd.prog 53 #[.slice (some ⟨gr, 0, none⟩) M cap] w fun e w' => ∃ (gp : Nat) (p : Array (Pl m)), e = .returned (.slice (some ⟨gp, 0, none⟩) M M) ∧ Below w.heap.size w w' ∧ w.heap.size ≤ gp ∧
      w'.rowIs gp 3 M (fun i => encP p[i]!) ∧ p.size = M ∧ Blk p 0 M ∧ Srt r p 0 M
theorem greatest_under (m : Nat) (h : m + 1 < 20) : Greatest m := fun r gr cap M hM w hg hr => greatest_small r gr cap M hM w (by omega) hg hr

theorem info2 : (Tryd.prog.info? 2).map (fun i => (i.zero, i.size, i.bytes)) = some (some (.int .i64 0), 1, 8) := by kernel_rfl
theorem info50 : (Tryd.prog.info? 50).map (fun i => (i.zero, i.size, i.bytes)) = some (some (.int .u64 0), 1, 8) := by kernel_rfl

/-- A number that fits a quotient's high word. -/
theorem high_lt (T x S h l : Int) (hm : T * x = h * 18446744073709551616 + l) (l0 : 0 ≤ l) (T0 : 0 ≤ T) (T1 : T ≤ 1000000000000000) (_x0 : 0 ≤ x) (xS : x ≤ S) (S0 : 0 < S) : h < S := by
  have h1 : T * x ≤ T * S := Int.mul_le_mul_of_nonneg_left xS T0
  have h2 : T * S ≤ 1000000000000000 * S := Int.mul_le_mul_of_nonneg_right T1 (by omega)
  omega

theorem row_step {w : World} {b t n k : Nat} {K : IntKind} {F : Nat → Int} (h : w.rowIs b t n (fun i => .int K (if i < k then F i else 0))) :
    (w.setCell ⟨b, k, none⟩ (.int K (F k))).rowIs b t n (fun i => .int K (if i < k + 1 then F i else 0)) := by
  refine (h.set k _).congr fun i hi => ?_
  by_cases h1 : i = k
  · rw [if_pos h1, h1, if_pos (by omega)]
  · rw [if_neg h1]
    by_cases h2 : i < k
    · rw [if_pos h2, if_pos (by omega)]
    · rw [if_neg h2, if_neg (by omega)]

set_option maxRecDepth 100000 in
set_option maxHeartbeats 2000000 in
theorem share_any {m : Nat} (hG : Greatest m) (T S : Int) (wt : Nat → Int) (bw n cw : Nat) (hM : m + 1 = n) (w : World) (hn : n ≤ 1024) (T0 : 0 ≤ T) (T1 : T ≤ 1000000000000000) (hbw : bw < w.heap.size)
    (hc : ∀ i, i < n → w.cell? ⟨bw, i, none⟩ = some (.int .i64 (wt i))) (hw : ∀ i, i < n → 0 ≤ wt i ∧ wt i ≤ 1000000000) (hS : sumTo wt n = S) (S0 : 0 < S) :
    Calls Tryd.prog 39 #[.int .u64 T, .slice (some ⟨bw, 0, none⟩) n cw, .int .u64 S] w fun e w' => ∃ (p : Array (Pl m)) (L : Nat), e = .returned (.slice (some ⟨w.heap.size, 0, none⟩) n n) ∧ (L : Int) = T - sumTo (part T S wt) n ∧ L ≤ n ∧
      w'.rowIs w.heap.size 2 n (fun i => .int .i64 (got T S wt p L i)) ∧ p.size = n ∧ Blk p 0 n ∧ Srt (fun i => over T S wt i.val) p 0 n ∧ Below w.heap.size w w' := by
  obtain ⟨i2, hi2, hz20, hz21, hz22⟩ := info_parts info2
  obtain ⟨i5, hi5, hz50, hz51, hz52⟩ := info_parts info50
  have S1 : S ≤ 1024000000000 := by
    have := sumTo_le (f := wt) (n := n) 1000000000 fun i hi => (hw i hi).2
    omega
  have HC := Lib.hid hc
  have HW := Lib.hid hw
  have HS := Lib.hid hS
  have HM := Lib.hid hM
  have n0 : 1 ≤ n := by omega
  clear hc hw hS hM
  go_enter Tryd.func39, Tryd.ntmps39
  go_wp2_with (first | (at_make; refine wpList_make_row _ rfl _ _ 36 rfl 2 i2 (.int .i64 0) Tryd.underlying36 hi2 hz20 hz21 rfl .i64 .i64 n rfl rfl (by rw [hz22]; omega) (by omega) ?_) | (at_make; refine wpList_make_row _ rfl _ _ 84 rfl 50 i5 (.int .u64 0) Tryd.underlying84 hi5 hz50 hz51 rfl .i64 .i64 n rfl rfl (by rw [hz52]; omega) (by omega) ?_))
  go_loopw [9, 26] (fun t9 t26 wr => ∃ k : Nat, k ≤ n ∧ t9 = .int .u64 (T - sumTo (part T S wt) k) ∧ t26 = .int .i64 k ∧ wr.rowIs w.heap.size 2 n (fun i => .int .i64 (if i < k then part T S wt i else 0)) ∧ wr.rowIs (w.heap.size + 1) 50 n (fun i => .int .u64 (if i < k then over T S wt i else 0)) ∧ Below w.heap.size w wr) (fun _ t26 _ => n - (intOf t26).toNat)
  case atStart =>
    refine ⟨0, by omega, by simp [sumTo], rfl, ?_, ?_, ?_⟩
    · have := (World.rowIs_made w (.int .i64 0) n 2).alloc (.cells (madeCells #[.int .u64 0] n) 50)
      exact this.congr fun i _ => by simp
    · have := World.rowIs_made (w.alloc (.cells (madeCells #[.int .i64 0] n) 2)) (.int .u64 0) n 50
      simp only [World.size_alloc] at this
      exact this.congr fun i _ => by simp
    · exact ((Below.refl _ _).alloc (Nat.le_refl _) _).alloc (by simp) _
  case round =>
    obtain ⟨k, hk, rfl, rfl, r1, r2, hbl⟩ := hrel
    by_cases hlt : k < n
    · have c1 : wr.cell? ⟨bw, k, none⟩ = some (.int .i64 (wt k)) := by rw [hbl.cell (p := ⟨bw, k, none⟩) hbw]; exact HC.out k hlt
      obtain ⟨x0, x1⟩ := HW.out k hlt
      have xS : wt k ≤ S := by
        have h1 := sumTo_mono (f := wt) (k := k + 1) (n := n) (by omega) fun i hi => (HW.out i hi).1
        have h2 := sumTo_nonneg (f := wt) (n := k) fun i hi => (HW.out i (by omega)).1
        have h3 := HS.out
        rw [sumTo] at h1
        omega
      have p0 := sumTo_nonneg (f := part T S wt) (n := k) fun i hi => part_nonneg T S wt i T0 S0 (HW.out i (by omega)).1
      have p1 := parts_le T S wt (k + 1) T0 S0 (fun i hi => (HW.out i (by omega)).1) (by
        have h1 := sumTo_mono (f := wt) (k := k + 1) (n := n) (by omega) fun i hi => (HW.out i hi).1
        have h3 := HS.out
        omega)
      rw [sumTo] at p1
      have q0 := part_nonneg T S wt k T0 S0 x0
      obtain ⟨o0, o1⟩ := over_bd T S wt k S0
      have HQ := Lib.hid (show sumTo (part T S wt) (k + 1) = sumTo (part T S wt) k + part T S wt k from rfl)
      have HP := Lib.hid (show T * wt k / S = part T S wt k from rfl)
      have HO := Lib.hid (show T * wt k % S = over T S wt k from rfl)
      have R := Lib.hid (And.intro r1 (And.intro r2 hbl))
      have hz := Nat.le_trans (show w.heap.size ≤ w.heap.size from Nat.le_refl _) hbl.size
      have l1 := r1.lt
      have l2 := r2.lt
      clear r1 r2 hbl
      obtain ⟨x, hx⟩ : ∃ x, wt k = x := ⟨_, rfl⟩
      obtain ⟨q, hq⟩ : ∃ x, part T S wt k = x := ⟨_, rfl⟩
      obtain ⟨o, ho⟩ : ∃ x, over T S wt k = x := ⟨_, rfl⟩
      obtain ⟨z, hz9⟩ : ∃ x, sumTo (part T S wt) k = x := ⟨_, rfl⟩
      rw [hx] at c1 x0 x1 xS HP HO
      rw [hq] at p1 q0 HQ HP
      rw [ho] at o0 o1 HO
      rw [hz9] at p0 p1 HQ ⊢
      have HE := Lib.hid (And.intro hq ho)
      clear hx hq ho hz9
      have hkn : (k : Int) < n := by omega
      have hn' : (n : Int) ≤ 1024 := by omega
      go_wp2_with (first | (go_at_call 30; refine (times_any _ _ _ T0 (by omega) x0 (by omega)).mono ?_; rintro e w1 ⟨h, l, rfl, hml, h0, h1, l0, l1', hb1⟩; have HH := Lib.hid (high_lt T x S h l hml l0 T0 T1 x0 xS S0); have HML := Lib.hid hml; clear hml) | (go_at_call 51; refine (over_yes _ _ _ _ h0 l0 l1' (by omega) HH.out).mono ?_; rw [← HML.out, HP.out, HO.out]; rintro e w2 ⟨rfl, hb2⟩; have HB2 := Lib.hid (below_then hb1 hb2); have R2 := Lib.hid (And.intro (row_kept R.out.1 HB2.out) (row_kept R.out.2.1 HB2.out)); have d1 := R2.out.1.cell hlt; have d2 := R2.out.2.cell hlt; have g1 := R2.out.1.frozen k; have g2 := R2.out.2.frozen k))
      go_roundw
      case rel =>
        refine ⟨k + 1, by omega, ?_, by go_num, ?_, ?_, ?_⟩
        · rw [HQ.out]; congr 1; omega
        · have := row_step R2.out.1 (k := k) (F := part T S wt)
          rw [HE.out.1] at this
          exact this.setOther (by simp) _
        · have := row_step (R2.out.2.setOther (a := ⟨w.heap.size, k, none⟩) (by simp) (.int .i64 q)) (k := k) (F := over T S wt)
          rw [HE.out.2] at this
          exact this
        · exact ((R.out.2.2.trans (HB2.out.mono R.out.2.2.size)).setCell (by simp) _).setCell (by simp) _
      case measure => simp [intOf]; omega
    · obtain rfl : k = n := by omega
      have hL := left_lt T S wt k (by omega) S0 HS.out
      have hL0 := parts_le T S wt k T0 S0 (fun i hi => (HW.out i hi).1) (by have := HS.out; omega)
      obtain ⟨L, hLz⟩ : ∃ L : Nat, T - sumTo (part T S wt) k = L := ⟨(T - sumTo (part T S wt) k).toNat, by omega⟩
      rw [hLz] at hL ⊢
      have LE : L ≤ k := by omega
      have LZ := Lib.hid hLz
      have R := Lib.hid (And.intro r1 (And.intro r2 hbl))
      have HGR := Lib.hid (hG (fun i => over T S wt i.val) (w.heap.size + 1) k k HM.out)
      clear hL hL0 hLz r1 r2 hbl
      have hLi : (L : Int) ≤ k := by omega
      have hki : (k : Int) ≤ 1024 := by omega
      have hL0 : (0 : Int) ≤ L := by omega
      go_wp2_with (go_at_call 53; refine (HGR.out _ R.out.2.1.lt (fun i => by rw [R.out.2.1.cell (by have := i.isLt; have := HM.out; omega), if_pos (by have := i.isLt; have := HM.out; omega)])).mono ?_; rintro e w1 ⟨gp, p, rfl, hb1, hgp, hp, hps, hpb, hpr⟩; have HP := Lib.hid (And.intro hb1 (And.intro hgp (And.intro hp (And.intro hps (And.intro hpb hpr))))); clear hb1 hgp hp hps hpb hpr)
      have hp0 : part T S wt = part T S wt := rfl
      have hpart : ∀ i, i < k → 0 ≤ part T S wt i ∧ part T S wt i ≤ T := fun i hi => by
        have h1 := part_nonneg T S wt i T0 S0 (HW.out i hi).1
        have h2 := parts_le T S wt (i + 1) T0 S0 (fun i' hi' => (HW.out i' (by omega)).1) (by
          have h1 := sumTo_mono (f := wt) (k := i + 1) (n := k) (by omega) fun i hi => (HW.out i hi).1
          have h3 := HS.out
          omega)
        have h3 := sumTo_nonneg (f := part T S wt) (n := i) fun i' hi' => part_nonneg T S wt i' T0 S0 (HW.out i' (by omega)).1
        rw [sumTo] at h2
        omega
      have HPART := Lib.hid hpart
      clear hpart hp0
      obtain ⟨wo, rfl⟩ : ∃ wo : World, wo = w1 := ⟨_, rfl⟩
      go_loopw [59] (fun t59 wx => ∃ j : Nat, j ≤ L ∧ t59 = .int .i64 j ∧ wx.rowIs w.heap.size 2 k (fun i => .int .i64 (got T S wt p j i)) ∧ wx.rowIs gp 3 k (fun i => encP p[i]!) ∧ RowKit.Below w.heap.size w wx) (fun t59 _ => L - (intOf t59).toNat)
      case atStart =>
        refine ⟨0, by omega, rfl, ?_, HP.out.2.2.1, R.out.2.2.trans (HP.out.1.mono R.out.2.2.size)⟩
        exact (row_kept R.out.1 HP.out.1).congr fun i hi => by rw [if_pos hi]; simp [got, taken_zero]
      case round =>
        obtain ⟨j, hj, rfl, s1, s2, hbx⟩ := hrel
        by_cases hjl : j < L
        · have hjk : j < k := by omega
          have c1 := s2.cell hjk
          have hin := HP.out.2.2.2.2.1.into j (by omega) hjk
          obtain ⟨y, hy⟩ : ∃ y : Nat, p[j]!.val = y := ⟨_, rfl⟩
          simp only [encP, hy] at c1
          rw [hy] at hin
          obtain ⟨_, y1⟩ := hin
          have c2 := s1.cell y1
          have f2 := s1.frozen y
          have hgd : 0 ≤ got T S wt p j y ∧ got T S wt p j y ≤ T + 1 := by
            have := HPART.out y y1
            unfold got; split <;> omega
          obtain ⟨x, hx⟩ : ∃ x, got T S wt p j y = x := ⟨_, rfl⟩
          rw [hx] at c2 hgd
          obtain ⟨x0, x1⟩ := hgd
          have HX := Lib.hid hx
          have HY := Lib.hid hy
          have R2 := Lib.hid (And.intro s1 (And.intro s2 hbx))
          clear hx hy s1 s2 hbx
          have y1i : (y : Int) < k := by omega
          have hjli : (j : Int) < L := by omega
          go_wp2
          go_roundw
          case rel =>
            refine ⟨j + 1, by omega, by go_num, ?_, ?_, ?_⟩
            · refine (R2.out.1.set y _).congr fun i hi => ?_
              rw [got_step (fun i => over T S wt i.val) T S wt p j i k hjk HP.out.2.2.2.2.2, HY.out]
              by_cases e : i = y
              · rw [if_pos e, if_pos e, e, HX.out]
              · rw [if_neg e, if_neg e]
            · refine R2.out.2.1.setOther ?_ _
              have h1 := HP.out.2.1
              have h2 := R.out.1.lt
              simp; omega
            · exact R2.out.2.2.setCell (by simp) _
          case measure => simp [intOf]; omega
        · obtain rfl : j = L := by omega
          have HF := Lib.hid (And.intro s1 hbx)
          clear s1 s2 hbx
          go_wp2
          go_ret
          exact ⟨p, j, rfl, LZ.out.symm, LE, HF.out.1, HP.out.2.2.2.1, HP.out.2.2.2.2.1, HP.out.2.2.2.2.2, HF.out.2⟩

end Go.Proofs.YtefkabkncmflpaaDoor
