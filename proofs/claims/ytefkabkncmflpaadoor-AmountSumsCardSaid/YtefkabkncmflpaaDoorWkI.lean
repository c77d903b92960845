/-
  Walks: Split.
-/
import Derived.Test.YtefkabkncmflpaaDoorWkH
namespace Go.Proofs.YtefkabkncmflpaaDoor
open Go.RowKit Go.Sort Go.Shelf

theorem ret_slice {v : Value} {k : IntKind} {a b : Int} (h : a = b) : Ending.returned (.tuple #[v, .int k a]) = .returned (.tuple #[v, .int k b]) := by rw [h]

set_option maxHeartbeats 400000 in
theorem split_long (T : Int) (a : Option Addr) (n cw : Nat) (w : World) (hn : n = 0 ∨ 1024 < n) (hn2 : n ≤ 9223372036854775807) :
    Calls Tryd.prog 20 #[.int .i64 T, .slice a n cw] w fun e w' => e = .returned (.tuple #[.slice none 0 0, .int .i64 3]) ∧ w = w' := by
  rcases hn with h | h
  · subst h
    go_enter Tryd.func20, Tryd.ntmps20
    go_wp2
    go_ret2
    exact ⟨rfl, rfl⟩
  · have h0 : ((n : Int) == 0) = false := by simp; omega
    have h1 : (1024 : Int) < n := by omega
    go_enter Tryd.func20, Tryd.ntmps20
    go_wp2
    go_ret2
    exact ⟨rfl, rfl⟩

set_option maxHeartbeats 400000 in
theorem split_weights (T : Int) (_wt : Nat → Int) (bw n cw : Nat) (w : World) (hn0 : 0 < n) (hn : n ≤ 1024)
    (hg : Calls Tryd.prog 38 #[.slice (some ⟨bw, 0, none⟩) n cw] w fun e w' => e = .returned (.tuple #[.int .u64 0, .bool false]) ∧ w = w') :
    Calls Tryd.prog 20 #[.int .i64 T, .slice (some ⟨bw, 0, none⟩) n cw] w fun e w' => e = .returned (.tuple #[.slice none 0 0, .int .i64 2]) ∧ w = w' := by
  have h0 : ((n : Int) == 0) = false := by simp; omega
  have h1 : (n : Int) ≤ 1024 := by omega
  have HG := Lib.hid hg
  clear hg
  go_enter Tryd.func20, Tryd.ntmps20
  go_wp2_with (go_at_call 38; refine HG.out.mono ?_; rintro e w' ⟨rfl, rfl⟩)
  go_ret2
  exact ⟨rfl, rfl⟩

set_option maxHeartbeats 400000 in
theorem split_total (T : Int) (S : Int) (bw n cw : Nat) (w : World) (hn0 : 0 < n) (hn : n ≤ 1024) (hT : T < -1000000000000000 ∨ 1000000000000000 < T)
    (hg : Calls Tryd.prog 38 #[.slice (some ⟨bw, 0, none⟩) n cw] w fun e w' => e = .returned (.tuple #[.int .u64 S, .bool true]) ∧ w = w') :
    Calls Tryd.prog 20 #[.int .i64 T, .slice (some ⟨bw, 0, none⟩) n cw] w fun e w' => e = .returned (.tuple #[.slice none 0 0, .int .i64 2]) ∧ w = w' := by
  have h0 : ((n : Int) == 0) = false := by simp; omega
  have h1 : (n : Int) ≤ 1024 := by omega
  have HG := Lib.hid hg
  clear hg
  go_enter Tryd.func20, Tryd.ntmps20
  go_wp2_with (first | (go_at_call 38; refine HG.out.mono ?_; rintro e w' ⟨rfl, rfl⟩) | (go_at_call 36; refine (isMoney_no _ _ hT).mono ?_; rintro e w' ⟨rfl, rfl⟩))
  go_ret2
  exact ⟨rfl, rfl⟩

def signOf (T x : Int) : Int := if T < 0 then -x else x

set_option maxRecDepth 100000 in
set_option maxHeartbeats 1000000 in
theorem split_ok {m : Nat} (hG : Greatest m) (T S : Int) (wt : Nat → Int) (bw n cw : Nat) (hM : m + 1 = n) (w : World) (hn : n ≤ 1024) (T0 : -1000000000000000 ≤ T) (T1 : T ≤ 1000000000000000) (hbw : bw < w.heap.size)
    (hc : ∀ i, i < n → w.cell? ⟨bw, i, none⟩ = some (.int .i64 (wt i))) (hw : ∀ i, i < n → 0 ≤ wt i ∧ wt i ≤ 1000000000) (hS : sumTo wt n = S) (S0 : 0 < S) :
    Calls Tryd.prog 20 #[.int .i64 T, .slice (some ⟨bw, 0, none⟩) n cw] w fun e w' => ∃ (p : Array (Pl m)) (L : Nat), e = .returned (.tuple #[.slice (some ⟨w.heap.size, 0, none⟩) n n, .int .i64 0]) ∧ (L : Int) = size T - sumTo (part (size T) S wt) n ∧ L ≤ n ∧
      w'.rowIs w.heap.size 2 n (fun i => .int .i64 (signOf T (got (size T) S wt p L i))) ∧ p.size = n ∧ Blk p 0 n ∧ Srt (fun i => over (size T) S wt i.val) p 0 n ∧ Below w.heap.size w w' := by
  have h0 : ((n : Int) == 0) = false := by simp; omega
  have h1 : (n : Int) ≤ 1024 := by omega
  have hg := weigh_yes wt bw n cw w hn hc hw
  rw [hS, decide_eq_true S0] at hg
  have s0 := size_nonneg T
  have s1 : size T ≤ 1000000000000000 := by unfold size; omega
  have HG := Lib.hid hg
  have HSH := Lib.hid (share_any hG (size T) S wt bw n cw hM w hn s0 s1 hbw hc hw hS S0)
  have hgot : ∀ (p : Array (Pl m)) (L i : Nat), i < n → 0 ≤ got (size T) S wt p L i ∧ got (size T) S wt p L i ≤ size T + 1 := fun p L i hi => by
    have e1 := part_nonneg (size T) S wt i s0 S0 (hw i hi).1
    have e2 := parts_le (size T) S wt (i + 1) s0 S0 (fun i' hi' => (hw i' (by omega)).1) (by
      have h1 := sumTo_mono (f := wt) (k := i + 1) (n := n) (by omega) fun i hi => (hw i hi).1
      omega)
    have e3 := sumTo_nonneg (f := part (size T) S wt) (n := i) fun i' hi' => part_nonneg (size T) S wt i' s0 S0 (hw i' (by omega)).1
    rw [sumTo] at e2
    unfold got; split <;> omega
  have HGOT := Lib.hid hgot
  clear hg hc hw hS hgot hM
  by_cases hT : T < 0
  · go_enter Tryd.func20, Tryd.ntmps20
    go_wp2_with (first | (go_at_call 38; refine HG.out.mono ?_; rintro e w' ⟨rfl, rfl⟩) | (go_at_call 36; refine (isMoney_yes _ _ T0 T1).mono ?_; rintro e w' ⟨rfl, rfl⟩) | (go_at_call 31; refine (size_is _ _ (by omega) (by omega)).mono ?_; rintro e w' ⟨rfl, rfl⟩) | (go_at_call 39; refine HSH.out.mono ?_; rintro e w1 ⟨p, L, rfl, q1, q2, q3, q4, q5, q6, q7⟩; have HQ := Lib.hid (And.intro q1 (And.intro q2 (And.intro q3 (And.intro q4 (And.intro q5 (And.intro q6 q7)))))); clear q1 q2 q3 q4 q5 q6 q7))
    go_loopw [39] (fun t39 wx => ∃ j : Nat, j ≤ n ∧ t39 = .int .i64 j ∧ wx.rowIs w.heap.size 2 n (fun i => .int .i64 (if i < j then -got (size T) S wt p L i else got (size T) S wt p L i)) ∧ RowKit.Below w.heap.size w wx) (fun t39 _ => n - (intOf t39).toNat)
    case atStart => exact ⟨0, by omega, rfl, HQ.out.2.2.1.congr fun i _ => by simp, HQ.out.2.2.2.2.2.2⟩
    case round =>
      obtain ⟨j, hj, rfl, r1, hbl⟩ := hrel
      by_cases hlt : j < n
      · have c1 := r1.cell hlt
        have f1 := r1.frozen j
        rw [if_neg (Nat.lt_irrefl j)] at c1
        obtain ⟨x, hx⟩ : ∃ x, got (size T) S wt p L j = x := ⟨_, rfl⟩
        have hxb := HGOT.out p L j hlt
        rw [hx] at c1 hxb
        obtain ⟨x0, x1⟩ := hxb
        have HX := Lib.hid hx
        have R := Lib.hid (And.intro r1 hbl)
        clear hx r1 hbl
        have hji : (j : Int) < n := by omega
        go_wp2
        go_roundw
        case rel =>
          refine ⟨j + 1, by omega, by go_num, ?_, R.out.2.setCell (by simp) _⟩
          refine (R.out.1.set j _).congr fun i hi => ?_
          by_cases e : i = j
          · rw [if_pos e, e, if_pos (by omega), HX.out]
          · rw [if_neg e]
            by_cases e2 : i < j
            · rw [if_pos e2, if_pos (by omega)]
            · rw [if_neg e2, if_neg (by omega)]
        case measure => simp [intOf]; omega
      · obtain rfl : j = n := by omega
        have HF := Lib.hid (And.intro r1 hbl)
        clear r1 hbl
        go_wp2
        go_ret2
        exact ⟨p, L, rfl, HQ.out.1, HQ.out.2.1, HF.out.1.congr fun i hi => by rw [if_pos hi, signOf, if_pos hT], HQ.out.2.2.2.1, HQ.out.2.2.2.2.1, HQ.out.2.2.2.2.2.1, HF.out.2⟩
  · go_enter Tryd.func20, Tryd.ntmps20
    go_wp2_with (first | (go_at_call 38; refine HG.out.mono ?_; rintro e w' ⟨rfl, rfl⟩) | (go_at_call 36; refine (isMoney_yes _ _ T0 T1).mono ?_; rintro e w' ⟨rfl, rfl⟩) | (go_at_call 31; refine (size_is _ _ (by omega) (by omega)).mono ?_; rintro e w' ⟨rfl, rfl⟩) | (go_at_call 39; refine HSH.out.mono ?_; rintro e w1 ⟨p, L, rfl, q1, q2, q3, q4, q5, q6, q7⟩; have HQ := Lib.hid (And.intro q1 (And.intro q2 (And.intro q3 (And.intro q4 (And.intro q5 (And.intro q6 q7)))))); clear q1 q2 q3 q4 q5 q6 q7))
    go_ret2
    exact ⟨p, L, rfl, HQ.out.1, HQ.out.2.1, HQ.out.2.2.1.congr fun i hi => by rw [signOf, if_neg (by omega)], HQ.out.2.2.2.1, HQ.out.2.2.2.2.1, HQ.out.2.2.2.2.2.1, HQ.out.2.2.2.2.2.2⟩

end Go.Proofs.YtefkabkncmflpaaDoor
