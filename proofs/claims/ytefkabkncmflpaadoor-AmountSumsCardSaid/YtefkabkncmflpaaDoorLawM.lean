/-
  The law AmountSums.
-/
import Derived.Test.YtefkabkncmflpaaDoorLawO
import Derived.Test.YtefkabkncmflpaaDoorSums
import Derived.Test.YtefkabkncmflpaaDoorBelow
namespace Go.Proofs.YtefkabkncmflpaaDoor
open Go.RowKit Go.Sort Go.Shelf

theorem amt_ok {m : Nat} (p : Array (Pl m)) (v S : Int) (wt : Nat → Int) (L n : Nat) (hM : m + 1 = n) (hn : n ≤ 1024) (pB : Blk p 0 n) (pS : Srt (fun i => over (size v) S wt i.val) p 0 n) (hok : WtOk wt n) (hS : sumTo wt n = S) (S0 : 0 < S)
    (v0 : -1000000000000000 ≤ v) (v1 : v ≤ 1000000000000000) (eL : (L : Int) = size v - sumTo (part (size v) S wt) n) (w : World) (g c : Nat) (h : Lies w g n wt) :
    Calls Tryd.prog 20 #[.int .i64 v, .slice (some ⟨g, 0, none⟩) n c] w (Res w n (fun i => signOf v (got (size v) S wt p L i)) 0) := by
  subst hM
  refine (split_ok (greatest_any hn) v S wt g (m + 1) c rfl w hn v0 v1 h.1 h.2 hok hS S0).mono ?_
  rintro e w' ⟨p', L', rfl, e1, e2, e3, e4, e5, e6, e7⟩
  obtain rfl : L' = L := by omega
  refine ⟨_, _, rfl, .inr ⟨_, rfl, Nat.le_refl _, e3.congr fun i hi => ?_⟩, e7⟩
  unfold got
  rw [← taken_one pB pS e5 e6 L' i e2]

/-- What the shares are like. -/
structure Fair (v S : Int) (wt F B : Nat → Int) (n : Nat) : Prop where
  b : ∀ i, i < n → B i = -F i
  lo : ∀ i, i < n → (F i - 1) * S < v * wt i
  hi : ∀ i, i < n → (-(F i + 1)) * S < (-v) * wt i
  bd : ∀ i, i < n → -1000000000000001 ≤ F i ∧ F i ≤ 1000000000000001
  sm : sumTo F n = v
  sb : ∀ k, k ≤ n → -1000000000000000 ≤ sumTo F k ∧ sumTo F k ≤ 1000000000000000

theorem fair_of {m : Nat} (p : Array (Pl m)) (v S : Int) (wt : Nat → Int) (L n : Nat) (pB : Blk p 0 n) (pS : Srt (fun i => over (size v) S wt i.val) p 0 n) (hok : WtOk wt n) (hS : sumTo wt n = S) (S0 : 0 < S)
    (v0 : -1000000000000000 ≤ v) (v1 : v ≤ 1000000000000000) (eL : (L : Int) = size v - sumTo (part (size v) S wt) n) (hL : L ≤ n) :
    Fair v S wt (fun i => signOf v (got (size v) S wt p L i)) (fun i => signOf (-v) (got (size v) S wt p L i)) n := by
  have z0 := size_nonneg v
  have near := got_near (Z := size v) pB pS eL hL hS S0
  have tot := got_sum (Z := size v) (S := S) (wt := wt) pB pS eL hL
  have g0 : ∀ i, i < n → 0 ≤ got (size v) S wt p L i := fun i hi => by
    have := part_nonneg (size v) S wt i z0 S0 (hok i hi).1
    unfold got; split <;> omega
  have gs : ∀ k, k ≤ n → 0 ≤ sumTo (got (size v) S wt p L) k ∧ sumTo (got (size v) S wt p L) k ≤ size v := fun k hk =>
    ⟨sumTo_nonneg fun i hi => g0 i (by omega), Int.le_trans (sumTo_mono hk g0) (Int.le_of_eq tot)⟩
  have gle : ∀ i, i < n → got (size v) S wt p L i ≤ size v := fun i hi => by
    have h1 := (gs i (by omega)).1
    have h2 := (gs (i + 1) (by omega)).2
    rw [sumTo] at h2
    omega
  have hz : size v = if v < 0 then -v else v := by unfold size; split <;> omega
  have zb : size v ≤ 1000000000000000 := by rw [hz]; split <;> omega
  by_cases hv : v < 0
  · have hz' : size v = -v := by rw [hz, if_pos hv]
    have e1 : ∀ x, signOf v x = -x := fun x => if_pos hv
    have e2 : ∀ x, signOf (-v) x = x := fun x => if_neg (by omega)
    have es : ∀ k, sumTo (fun i => signOf v (got (size v) S wt p L i)) k = -sumTo (got (size v) S wt p L) k := fun k => by
      simp only [e1]; exact sumTo_neg _ k
    refine ⟨fun i hi => ?_, fun i hi => ?_, fun i hi => ?_, fun i hi => ?_, ?_, fun k hk => ?_⟩
    · simp only [e1, e2]; omega
    · simp only [e1]
      have h := (near i).2
      rw [hz', Int.neg_mul] at h
      rw [hz', show (-got (-v) S wt p L i - 1) * S = -((got (-v) S wt p L i + 1) * S) by rw [← Int.neg_mul]; congr 1; omega]
      omega
    · simp only [e1]
      have h := (near i).1
      rw [hz'] at h
      rw [hz', show (-(-got (-v) S wt p L i + 1)) = got (-v) S wt p L i - 1 by omega]
      exact h
    · simp only [e1]; have := g0 i hi; have := gle i hi; omega
    · rw [es, tot]; omega
    · rw [es]; have := gs k hk; omega
  · have hz' : size v = v := by rw [hz, if_neg hv]
    have e1 : ∀ x, signOf v x = x := fun x => if_neg hv
    have es : ∀ k, sumTo (fun i => signOf v (got (size v) S wt p L i)) k = sumTo (got (size v) S wt p L) k := fun k => by
      simp only [e1]
    refine ⟨fun i hi => ?_, fun i hi => ?_, fun i hi => ?_, fun i hi => ?_, ?_, fun k hk => ?_⟩
    · simp only [e1]
      by_cases h0 : v = 0
      · have := g0 i hi; have := gle i hi
        have : got (size v) S wt p L i = 0 := by omega
        rw [this]; unfold signOf; split <;> rfl
      · unfold signOf; rw [if_pos (by omega)]
    · simp only [e1]
      have h := (near i).1
      rw [hz'] at h ⊢
      exact h
    · simp only [e1]
      have h := (near i).2
      rw [hz'] at h ⊢
      rw [Int.neg_mul, Int.neg_mul]
      omega
    · simp only [e1]; have := g0 i hi; have := gle i hi; omega
    · rw [es, tot]; omega
    · rw [es]; have := gs k hk; omega

/-- What the rounds look at. -/
structure SumS (w : World) (n g4 g6 : Nat) (ad : Addr) (wt F B : Nat → Int) (wr : World) : Prop where
  bl : Below w.heap.size w wr
  l4 : g4 < wr.heap.size
  l6 : g6 < wr.heap.size
  la : ad.block < wr.heap.size
  c4 : ∀ i, i < n → wr.cell? ⟨g4, i, none⟩ = some (.int .i64 (F i))
  c6 : ∀ i, i < n → wr.cell? ⟨g6, i, none⟩ = some (.int .i64 (B i))
  ca : ∀ i, i < n → wr.cell? (ad.add i) = some (.int .i64 (wt i))
theorem SumS.keep {w wr w' : World} {n g4 g6 : Nat} {ad : Addr} {wt F B : Nat → Int} (h : SumS w n g4 g6 ad wt F B wr) (hb : Below wr.heap.size wr w') : SumS w n g4 g6 ad wt F B w' :=
  ⟨h.bl.trans (hb.mono h.bl.size), Nat.lt_of_lt_of_le h.l4 hb.size, Nat.lt_of_lt_of_le h.l6 hb.size, Nat.lt_of_lt_of_le h.la hb.size,
   fun i hi => by rw [hb.cell (p := ⟨g4, i, none⟩) h.l4]; exact h.c4 i hi, fun i hi => by rw [hb.cell (p := ⟨g6, i, none⟩) h.l6]; exact h.c6 i hi,
   fun i hi => by rw [hb.cell (p := ad.add i) (by rw [add_block]; exact h.la)]; exact h.ca i hi⟩

set_option maxRecDepth 100000 in
set_option maxHeartbeats 2000000 in
theorem sums_ok {m : Nat} (p : Array (Pl m)) (v S : Int) (wt : Nat → Int) (L n cw : Nat) (ad : Addr) (hM : m + 1 = n) (hn : n ≤ 1024) (pB : Blk p 0 n) (pS : Srt (fun i => over (size v) S wt i.val) p 0 n) (hok : WtOk wt n) (hS : sumTo wt n = S) (S0 : 0 < S)
    (v0 : -1000000000000000 ≤ v) (v1 : v ≤ 1000000000000000) (eL : (L : Int) = size v - sumTo (part (size v) S wt) n) (hL : L ≤ n) (w : World) (h : WIn w (some ad) n cw wt) :
    Calls Tryd.prog 7 #[.int .i64 v, .slice (some ad) n cw] w fun e w' => e = .returned (.bool true) ∧ Below w.heap.size w w' := by
  have hz : size (-v) = size v := by unfold size; omega
  have FF := Lib.hid (fair_of p v S wt L n pB pS hok hS S0 v0 v1 eL hL)
  have P1 := Lib.hid (amt_ok p v S wt L n hM hn pB pS hok hS S0 v0 v1 eL)
  have P2 := amt_ok p (-v) S wt L n hM hn pB (by rw [hz]; exact pS) hok hS S0 (by omega) (by omega) (by rw [hz]; exact eL)
  rw [hz] at P2
  have P2 := Lib.hid P2
  generalize (fun i => signOf v (got (size v) S wt p L i)) = F at FF P1
  generalize (fun i => signOf (-v) (got (size v) S wt p L i)) = B at FF P2
  have HS := Lib.hid (fun k (hk : k ≤ n) => sum_bd hok k hk (by omega))
  have HO := Lib.hid hok
  have HSS := Lib.hid hS
  have HW := Lib.hid h
  have S1 : S ≤ 1024000000000 := by have := sum_bd hok n (Nat.le_refl _) hn; omega
  have hn0 : 0 < n := by omega
  clear h hok hS pB pS eL hL hz hM
  go_enter Tryd.func7, Tryd.ntmps7
  go_wp2_with (first
    | (go_at_call 11; refine (wakes_any _).mono ?_; rintro e w1 ⟨rfl, hb1⟩; have W1 := Lib.hid (HW.out.kept hb1))
    | (go_at_call 21; refine (own_any (some ad) n cw wt _ W4.out).mono ?_; rintro e w5 ⟨g5, c5, rfl, -, m5, k5, hb5⟩; have L5 : Hid (Lies w5 g5 n wt) := Lib.hid ⟨m5, k5⟩; have W5 := Lib.hid (W4.out.kept hb5); have R5 := Lib.hid (R4.out.kept hb5); clear m5 k5)
    | (go_at_call 21; refine (own_any (some ad) n cw wt _ W1.out).mono ?_; rintro e w2 ⟨g2, c2, rfl, -, m2, k2, hb2⟩; have L2 : Hid (Lies w2 g2 n wt) := Lib.hid ⟨m2, k2⟩; have W2 := Lib.hid (W1.out.kept hb2); clear m2 k2)
    | (go_at_call 20; refine (P2.out _ g5 c5 L5.out).mono ?_; rintro e w6 ⟨A6, c6, rfl, r6, hb6⟩; have R6 := Lib.hid r6; have R46 := Lib.hid (R5.out.kept hb6); have W6 := Lib.hid (W5.out.kept hb6); clear r6)
    | (go_at_call 20; refine (P1.out _ g2 c2 L2.out).mono ?_; rintro e w4 ⟨A4, c4, rfl, r4, hb4⟩; have R4 := Lib.hid r4; have W4 := Lib.hid (W2.out.kept hb4); clear r4))
  obtain ⟨g4, rfl, -, r4⟩ := R46.out.resolve_left (by omega)
  obtain ⟨g6, rfl, -, r6⟩ := R6.out.resolve_left (by omega)
  obtain ⟨ad', e', la, ca⟩ := W6.out.at_ hn0
  injection e' with e'
  subst e'
  have OS : Hid (SumS w n g4 g6 ad wt F B w6) := Lib.hid ⟨below_then (below_then (below_then (below_then hb1 hb2) hb4) hb5) hb6, r4.lt, r6.lt, la, fun i hi => r4.cell hi, fun i hi => r6.cell hi, ca⟩
  clear R46 R6 R5 R4 W1 W2 W4 W5 W6 L2 L5 P1 P2 hb1 hb2 hb4 hb5 hb6 r4 r6 la ca HW
  go_loop [9, 55] (fun t9 t55 => ∃ k : Nat, k ≤ n ∧ t9 = .int .i64 (sumTo wt k) ∧ t55 = .int .i64 k) (fun _ t55 => n - (intOf t55).toNat)
  case atStart => exact ⟨0, by omega, rfl, rfl⟩
  case round =>
    obtain ⟨k, hk, rfl, rfl⟩ := hrel
    obtain ⟨s0, s1⟩ := HS.out k hk
    by_cases hlt : k < n
    · have ck := OS.out.ca k hlt
      have hki : (k : Int) < n := by omega
      obtain ⟨o0, o1⟩ := HO.out k hlt
      have SM := Lib.hid (show sumTo wt (k + 1) = sumTo wt k + wt k from rfl)
      obtain ⟨x, hx⟩ : ∃ x, wt k = x := ⟨_, rfl⟩
      obtain ⟨y, hy⟩ : ∃ y, sumTo wt k = y := ⟨_, rfl⟩
      rw [hx] at ck o0 o1 SM
      rw [hy] at s0 s1 SM ⊢
      clear hx hy
      go_wp2_with fail
      go_round
      case rel => exact ⟨k + 1, by omega, by rw [SM.out], by go_num⟩
      case measure => simp [intOf]; omega
    · obtain rfl : k = n := by omega
      rw [HSS.out]
      clear s0 s1 hk hlt
      go_wp2_with fail
      go_loopw [10, 67] (fun t10 t67 wr => ∃ i : Nat, i ≤ k ∧ t10 = .int .i64 (sumTo F i) ∧ t67 = .int .i64 i ∧ Hid (SumS w k g4 g6 ad wt F B wr)) (fun _ t67 _ => k - (intOf t67).toNat)
      case atStart => exact ⟨0, by omega, rfl, rfl, OS⟩
      case round =>
        obtain ⟨i, hi, rfl, rfl, hO⟩ := hrel
        obtain ⟨s0, s1⟩ := FF.out.sb i hi
        by_cases hlt : i < k
        · have c4' := hO.out.c4 i hlt
          have hij : (i : Int) < k := by omega
          have SM := Lib.hid (show sumTo F (i + 1) = sumTo F i + F i from rfl)
          obtain ⟨s2, s3⟩ := FF.out.sb (i + 1) (by omega)
          rw [SM.out] at s2 s3
          obtain ⟨f0, f1⟩ := FF.out.bd i hlt
          obtain ⟨o0, o1⟩ := HO.out i hlt
          have lo := Lib.hid (FF.out.lo i hlt)
          have hi' := Lib.hid (FF.out.hi i hlt)
          have c6' := hO.out.c6 i hlt
          have ca' := hO.out.ca i hlt
          rw [FF.out.b i hlt] at c6'
          obtain ⟨f, hf⟩ : ∃ f, F i = f := ⟨_, rfl⟩
          obtain ⟨x, hx⟩ : ∃ x, wt i = x := ⟨_, rfl⟩
          obtain ⟨y, hy⟩ : ∃ y, sumTo F i = y := ⟨_, rfl⟩
          rw [hf] at c4' c6' SM s2 s3 f0 f1 lo hi'
          rw [hx] at ca' o0 o1 lo hi'
          rw [hy] at s0 s1 s2 s3 SM ⊢
          have KB1 := Lib.hid (fun w => below_yes (f - 1) S v x w (by omega) (by omega) S0 (by omega) (by omega) (by omega) (by omega) (by omega) lo.out)
          have KB2 := Lib.hid (fun w => below_yes (-(f + 1)) S (-v) x w (by omega) (by omega) S0 (by omega) (by omega) (by omega) (by omega) (by omega) hi'.out)
          clear hf hx hy lo hi' OS
          have HH := hO
          clear hO
          go_wp2_with fail
          go_quiet (fail)
          have H1 := Lib.hid (HH.out.keep (drewN_below _ _ nq))
          have d4 : (wr.drewN nq).cell? ⟨g4, i, none⟩ = some (.int .i64 f) := c4'
          have d6 : (wr.drewN nq).cell? ⟨g6, i, none⟩ = some (.int .i64 (-f)) := c6'
          have da : (wr.drewN nq).cell? (ad.add i) = some (.int .i64 x) := ca'
          clear HH c4' c6' ca'
          generalize wr.drewN nq = w7 at H1 d4 d6 da ⊢
          go_wp2_with fail
          have WF := Lib.hid (show IntKind.i64.wrap (-f) = -f by rw [IntKind.wrap_i64]; omega)
          have WF1 := Lib.hid (show IntKind.i64.wrap (-(f + 1)) = -(f + 1) by rw [IntKind.wrap_i64]; omega)
          have WV := Lib.hid (show IntKind.i64.wrap (-v) = -v by rw [IntKind.wrap_i64]; omega)
          refine wp_region_held (S := fun w' => w'.cell? ⟨g4, i, none⟩ = some (.int .i64 f) ∧ w'.cell? ⟨g6, i, none⟩ = some (.int .i64 (-f)) ∧ w'.cell? (ad.add i) = some (.int .i64 x)) (by kernel_rfl) ?_
          change wpAnyH _ _ _ _ _ _ _ _ (World.drew _)
          have H2 := Lib.hid (H1.out.keep (drewN_below _ _ 1))
          replace d4 : w7.drew.cell? ⟨g4, i, none⟩ = some (.int .i64 f) := d4
          replace d6 : w7.drew.cell? ⟨g6, i, none⟩ = some (.int .i64 (-f)) := d6
          replace da : w7.drew.cell? (ad.add i) = some (.int .i64 x) := da
          replace H2 : Hid (SumS w k g4 g6 ad wt F B w7.drew) := H2
          clear H1
          generalize w7.drew = w0 at H2 d4 d6 da ⊢
          refine wpAnyH_take (i := 0) (v := .slice (some ⟨g6, 0, none⟩) k c6) rfl (by kernel_rfl) (by kernel_rfl) (by kernel_rfl) (fun _ _ _ h => h) (Or.inl ⟨by rfl, fun _ _ => by go_simp⟩) ⟨d4, d6, da⟩ ?_
          refine wpAnyH_take (i := 1) (v := .int .i64 i) rfl (by kernel_rfl) (by kernel_rfl) (by kernel_rfl) (fun _ _ _ h => h) (Or.inl ⟨by rfl, fun _ _ => by go_simp⟩) ⟨d4, d6, da⟩ ?_
          refine wpAnyH_take (i := 2) (v := .pointer (some ⟨g6, i, none⟩)) rfl (by kernel_rfl) (by kernel_rfl) (by kernel_rfl) (fun _ _ _ h => h) (Or.inl ⟨by rfl, fun _ _ => by go_simp⟩) ⟨d4, d6, da⟩ ?_
          refine wpAnyH_take (i := 3) (v := .int .i64 (-f)) rfl (by kernel_rfl) (by kernel_rfl) (by kernel_rfl) (fun _ _ _ h => h) (Or.inl ⟨by rfl, fun _ hS => by have := hS.2.1; go_simp⟩) ⟨d4, d6, da⟩ ?_
          refine wpAnyH_take (i := 4) (v := .slice (some ⟨g4, 0, none⟩) k c4) rfl (by kernel_rfl) (by kernel_rfl) (by kernel_rfl) (fun _ _ _ h => h) (Or.inl ⟨by rfl, fun _ _ => by go_simp⟩) ⟨d4, d6, da⟩ ?_
          refine wpAnyH_take (i := 5) (v := .int .i64 i) rfl (by kernel_rfl) (by kernel_rfl) (by kernel_rfl) (fun _ _ _ h => h) (Or.inl ⟨by rfl, fun _ _ => by go_simp⟩) ⟨d4, d6, da⟩ ?_
          refine wpAnyH_take (i := 6) (v := .pointer (some ⟨g4, i, none⟩)) rfl (by kernel_rfl) (by kernel_rfl) (by kernel_rfl) (fun _ _ _ h => h) (Or.inl ⟨by rfl, fun _ _ => by go_simp⟩) ⟨d4, d6, da⟩ ?_
          refine wpAnyH_take (i := 7) (v := .int .i64 f) rfl (by kernel_rfl) (by kernel_rfl) (by kernel_rfl) (fun _ _ _ h => h) (Or.inl ⟨by rfl, fun _ hS => by have := hS.1; go_simp⟩) ⟨d4, d6, da⟩ ?_
          refine wpAnyH_take (i := 8) (v := .int .i64 (-f)) rfl (by kernel_rfl) (by kernel_rfl) (by kernel_rfl) (fun _ _ _ h => h) (Or.inl ⟨by rfl, fun _ _ => by have := WF.out; go_simp; try exact this⟩) ⟨d4, d6, da⟩ ?_
          refine wpAnyH_take (i := 9) (v := .bool false) rfl (by kernel_rfl) (by kernel_rfl) (by kernel_rfl) (fun _ _ _ h => h) (Or.inl ⟨by rfl, fun _ _ => by go_simp⟩) ⟨d4, d6, da⟩ ?_
          refine wpAnyH_take (i := 10) (v := .bool false) rfl (by kernel_rfl) (by kernel_rfl) (by kernel_rfl) (fun _ _ _ h => h) (Or.inl ⟨by rfl, fun _ _ => by go_simp⟩) ⟨d4, d6, da⟩ ?_
          refine wpAnyH_take (i := 11) (v := .int .i64 (f - 1)) rfl (by kernel_rfl) (by kernel_rfl) (by kernel_rfl) (fun _ _ _ h => h) (Or.inl ⟨by kernel_rfl, fun _ _ => by go_simp⟩) ⟨d4, d6, da⟩ ?_
          refine wpAnyH_take (i := 12) (v := .int .i64 S) rfl (by kernel_rfl) (by kernel_rfl) (by kernel_rfl) (fun _ _ _ h => h) (Or.inl ⟨by kernel_rfl, fun _ _ => by go_simp⟩) ⟨d4, d6, da⟩ ?_
          refine wpAnyH_take (i := 13) (v := .int .i64 v) rfl (by kernel_rfl) (by kernel_rfl) (by kernel_rfl) (fun _ _ _ h => h) (Or.inl ⟨by kernel_rfl, fun _ _ => by go_simp⟩) ⟨d4, d6, da⟩ ?_
          refine wpAnyH_take (i := 14) (v := .slice (some ad) k cw) rfl (by kernel_rfl) (by kernel_rfl) (by kernel_rfl) (fun _ _ _ h => h) (Or.inl ⟨by kernel_rfl, fun _ _ => by go_simp⟩) ⟨d4, d6, da⟩ ?_
          refine wpAnyH_take (i := 15) (v := .int .i64 i) rfl (by kernel_rfl) (by kernel_rfl) (by kernel_rfl) (fun _ _ _ h => h) (Or.inl ⟨by kernel_rfl, fun _ _ => by go_simp⟩) ⟨d4, d6, da⟩ ?_
          refine wpAnyH_take (i := 16) (v := .pointer (some (ad.add i))) rfl (by kernel_rfl) (by kernel_rfl) (by kernel_rfl) (fun _ _ _ h => h) (Or.inl ⟨by kernel_rfl, fun _ _ => by go_simp⟩) ⟨d4, d6, da⟩ ?_
          refine wpAnyH_take (i := 17) (v := .int .i64 x) rfl (by kernel_rfl) (by kernel_rfl) (by kernel_rfl) (fun _ _ _ h => h) (Or.inl ⟨by kernel_rfl, fun _ hS => by have := hS.2.2; go_simp⟩) ⟨d4, d6, da⟩ ?_
          refine wpAnyH_all (rs := [18]) (by kernel_rfl) (by simp) ?_
          refine AllHeld.cons rfl (fun K hK => ?_) ?_
          · go_simp
            refine (KB1.out _).mono ?_
            rintro e w8 ⟨rfl, hb8⟩
            have H3 := Lib.hid (H2.out.keep hb8)
            have e4 := (hb8.cell (p := ⟨g4, i, none⟩) H2.out.l4).trans d4
            have e6 := (hb8.cell (p := ⟨g6, i, none⟩) H2.out.l6).trans d6
            have ea := (hb8.cell (p := ad.add i) (by rw [add_block]; exact H2.out.la)).trans da
            refine hK _ _ ⟨e4, e6, ea⟩ ?_
            clear hK K hb8 H2 d4 d6 da
            refine wpAnyH_take (i := 19) (v := .bool false) rfl (by kernel_rfl) (by kernel_rfl) (by kernel_rfl) (fun _ _ _ h => h) (Or.inl ⟨by kernel_rfl, fun _ _ => by go_simp⟩) ⟨e4, e6, ea⟩ ?_
            refine wpAnyH_take (i := 20) (v := .bool false) rfl (by kernel_rfl) (by kernel_rfl) (by kernel_rfl) (fun _ _ _ h => h) (Or.inl ⟨by rfl, fun _ _ => by go_simp⟩) ⟨e4, e6, ea⟩ ?_
            refine wpAnyH_take (i := 21) (v := .bool false) rfl (by kernel_rfl) (by kernel_rfl) (by kernel_rfl) (fun _ _ _ h => h) (Or.inl ⟨by rfl, fun _ _ => by go_simp⟩) ⟨e4, e6, ea⟩ ?_
            refine wpAnyH_take (i := 22) (v := .int .i64 (f + 1)) rfl (by kernel_rfl) (by kernel_rfl) (by kernel_rfl) (fun _ _ _ h => h) (Or.inl ⟨by kernel_rfl, fun _ _ => by go_simp⟩) ⟨e4, e6, ea⟩ ?_
            refine wpAnyH_take (i := 23) (v := .int .i64 (-(f + 1))) rfl (by kernel_rfl) (by kernel_rfl) (by kernel_rfl) (fun _ _ _ h => h) (Or.inl ⟨by kernel_rfl, fun _ _ => by have := WF1.out; go_simp; try exact this⟩) ⟨e4, e6, ea⟩ ?_
            refine wpAnyH_take (i := 24) (v := .int .i64 S) rfl (by kernel_rfl) (by kernel_rfl) (by kernel_rfl) (fun _ _ _ h => h) (Or.inl ⟨by kernel_rfl, fun _ _ => by go_simp⟩) ⟨e4, e6, ea⟩ ?_
            refine wpAnyH_take (i := 25) (v := .int .i64 v) rfl (by kernel_rfl) (by kernel_rfl) (by kernel_rfl) (fun _ _ _ h => h) (Or.inl ⟨by kernel_rfl, fun _ _ => by go_simp⟩) ⟨e4, e6, ea⟩ ?_
            refine wpAnyH_take (i := 26) (v := .int .i64 (-v)) rfl (by kernel_rfl) (by kernel_rfl) (by kernel_rfl) (fun _ _ _ h => h) (Or.inl ⟨by kernel_rfl, fun _ _ => by have := WV.out; go_simp; try exact this⟩) ⟨e4, e6, ea⟩ ?_
            refine wpAnyH_take (i := 27) (v := .slice (some ad) k cw) rfl (by kernel_rfl) (by kernel_rfl) (by kernel_rfl) (fun _ _ _ h => h) (Or.inl ⟨by kernel_rfl, fun _ _ => by go_simp⟩) ⟨e4, e6, ea⟩ ?_
            refine wpAnyH_take (i := 28) (v := .int .i64 i) rfl (by kernel_rfl) (by kernel_rfl) (by kernel_rfl) (fun _ _ _ h => h) (Or.inl ⟨by kernel_rfl, fun _ _ => by go_simp⟩) ⟨e4, e6, ea⟩ ?_
            refine wpAnyH_take (i := 29) (v := .pointer (some (ad.add i))) rfl (by kernel_rfl) (by kernel_rfl) (by kernel_rfl) (fun _ _ _ h => h) (Or.inl ⟨by kernel_rfl, fun _ _ => by go_simp⟩) ⟨e4, e6, ea⟩ ?_
            refine wpAnyH_take (i := 30) (v := .int .i64 x) rfl (by kernel_rfl) (by kernel_rfl) (by kernel_rfl) (fun _ _ _ h => h) (Or.inl ⟨by kernel_rfl, fun _ hS => by have := hS.2.2; go_simp⟩) ⟨e4, e6, ea⟩ ?_
            refine wpAnyH_all (rs := [31]) (by kernel_rfl) (by simp) ?_
            refine AllHeld.cons rfl (fun K hK => ?_) ?_
            · go_simp
              refine (KB2.out _).mono ?_
              rintro e w9 ⟨rfl, hb9⟩
              have H4 := Lib.hid (H3.out.keep hb9)
              have h4 := (hb9.cell (p := ⟨g4, i, none⟩) H3.out.l4).trans e4
              have h6 := (hb9.cell (p := ⟨g6, i, none⟩) H3.out.l6).trans e6
              have ha := (hb9.cell (p := ad.add i) (by rw [add_block]; exact H3.out.la)).trans ea
              refine hK _ _ ⟨h4, h6, ha⟩ ?_
              clear hK K hb9 H3 e4 e6 ea
              refine wpAnyH_take (i := 32) (v := .bool false) rfl (by kernel_rfl) (by kernel_rfl) (by kernel_rfl) (fun _ _ _ h => h) (Or.inl ⟨by kernel_rfl, fun _ _ => by go_simp⟩) ⟨h4, h6, ha⟩ ?_
              refine wpAnyH_take (i := 33) (v := .bool false) rfl (by kernel_rfl) (by kernel_rfl) (by kernel_rfl) (fun _ _ _ h => h) (Or.inl ⟨by rfl, fun _ _ => by go_simp⟩) ⟨h4, h6, ha⟩ ?_
              refine wpAnyH_done (by kernel_rfl) ?_ _
              go_wp2_with fail
              go_roundw
              case rel => exact ⟨i + 1, by omega, by rw [SM.out], by go_num, H4⟩
              case measure => simp [intOf]; omega
            · exact AllHeld.nil
          · exact AllHeld.nil
        · obtain rfl : i = k := by omega
          have e := FF.out.sm
          rw [e]
          go_wp2_with fail
          go_ret
          exact ⟨by simp, hO.out.bl⟩

end Go.Proofs.YtefkabkncmflpaaDoor
