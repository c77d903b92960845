/-
  Walks: the document's own reading of a text: the digits.
-/
import Derived.Test.YtefkabkncmflpaaDoorRefRead
namespace Go.Proofs.YtefkabkncmflpaaDoor
open Go.RowKit

/-- A number told by the places of a text but one. -/
def numSkip (l : List UInt8) (k : Nat) : Nat → Int
  | 0 => 0
  | i + 1 => if i = k then numSkip l k i else numSkip l k i * 10 + (((l.getD i 0).toNat : Int) - 48)

/-- What Back makes of a number: .. its helpers. -/
theorem late_more {d : ByteArray} {k i : Nat} (h : ∀ j (hj : j < d.size), j < i → j ≠ k → 48 ≤ (d[j].toNat : Int) ∧ (d[j].toNat : Int) ≤ 57) (hi : i < d.size) (hd : 48 ≤ (d[i].toNat : Int) ∧ (d[i].toNat : Int) ≤ 57) :
    ∀ j (hj : j < d.size), j < i + 1 → j ≠ k → 48 ≤ (d[j].toNat : Int) ∧ (d[j].toNat : Int) ≤ 57 := fun j hj hlt hne => by
  by_cases e : j = i
  · subst e; exact hd
  · exact h j hj (by omega) hne
theorem numSkip_bd (d : ByteArray) (k : Nat) : ∀ i, i ≤ d.size → (∀ j (hj : j < d.size), j < i → j ≠ k → 48 ≤ (d[j].toNat : Int) ∧ (d[j].toNat : Int) ≤ 57) → 0 ≤ numSkip d.data.toList k i ∧ numSkip d.data.toList k i < 10 ^ i
  | 0, _, _ => by simp [numSkip]
  | i + 1, hi, h => by
    have ih := numSkip_bd d k i (by omega) fun j hj hlt hne => h j hj (by omega) hne
    rw [numSkip, Int.pow_succ]
    by_cases e : i = k
    · rw [if_pos e]
      omega
    · rw [if_neg e, getD_at d i (by omega)]
      have := h i (by omega) (by omega) e
      omega
theorem ten_le (i : Nat) (h : i ≤ 20) : (10 : Int) ^ i ≤ 10 ^ 20 := by
  have := Nat.pow_le_pow_right (n := 10) (by omega) h
  exact_mod_cast this
theorem step_val (f : Nat → Int) (c : Int) (hf : InR f) (h0 : 0 ≤ val f 20) (h1 : val f 20 < 10 ^ 20) (c1 : 48 ≤ c) (c2 : c ≤ 57) :
    val (pd (tf f (ofD 10) 20) (ofD (c - 48))) 20 = val f 20 * 10 + (c - 48) := by
  have b1 : (10 : Int) ^ 20 * 10 + 10 < 65536 ^ 20 := by decide
  have e1 : val (ofD 10) 20 = 10 := ofD_val 10 (by decide) (by decide)
  have e2 : val (ofD (c - 48)) 20 = c - 48 := ofD_val _ (by omega) (by omega)
  have e3 : val (tf f (ofD 10) 20) 20 = val f 20 * 10 := by
    rw [times_in f _ hf (ofD_in _) (by rw [e1]; omega), e1]
  rw [plus_in _ _ (tf_in _ _ _) (ofD_in _) (by rw [e2, e3]; omega), e2, e3]

/-- What Back makes of a number: the amount, or that it is too great. -/
def backRes (x : Int) (neg : Bool) : Int × Int := if (backV x neg).2 = true then ((backV x neg).1, 0) else (0, 4)
/-- What the document's reading comes to behind its first look. -/
def Late (d : ByteArray) (k : Nat) (neg : Bool) (v er : Int) : Prop :=
  ((∃ j, ∃ h : j < d.size, j ≠ k ∧ ¬ (48 ≤ (d[j].toNat : Int) ∧ (d[j].toNat : Int) ≤ 57)) ∧ v = 0 ∧ er = 7) ∨
  ((∀ j (h : j < d.size), j ≠ k → 48 ≤ (d[j].toNat : Int) ∧ (d[j].toNat : Int) ≤ 57) ∧ (v, er) = backRes (numSkip d.data.toList k d.size) neg)

set_option maxRecDepth 100000 in
set_option maxHeartbeats 4000000 in
theorem refRead_late_plus (s : ByteArray) (k : Nat) (w : World) (hc : ∀ h : 0 < s.size, (s[0].toNat : Int) ≠ 45) (hE : ¬ Early s false) (hkk : s.size - 3 = k) :
    Calls Tryd.prog 26 #[.string s] w fun e w' => ∃ v er, e = .returned (.tuple #[.int .i64 v, .int .i64 er]) ∧ Late s k false v er ∧ Below w.heap.size w w' := by
  have h4 : 4 ≤ s.size := Nat.le_of_not_lt fun h => hE (Or.inl h)
  have h20 : s.size ≤ 20 := Nat.le_of_not_lt fun h => hE (Or.inr (Or.inl h))
  have hlt : k < s.size := by omega
  have hx : (s[k].toNat : Int) = 46 := Decidable.byContradiction fun h => hE (Or.inr (Or.inr (Or.inl ⟨h4, by subst hkk; exact h⟩)))
  have hz : ¬ (1 < k ∧ ∃ h : 0 < s.size, (s[0].toNat : Int) = 48) := fun h => hE (Or.inr (Or.inr (Or.inr (Or.inl ⟨by omega, h.2.2⟩))))
  have hp : 0 < s.size := by omega
  have hp1 := hc hp
  have hp1b : ((s[0].toNat : Int) == 45) = false := by simpa using hp1
  have hpi : (0 : Int) < s.size := by omega
  have hk : (s.size : Int) - 3 = k := by omega
  have k1 : (1 : Int) ≤ k := by omega
  have k17 : (k : Int) ≤ 17 := by omega
  have hli : (k : Int) < s.size := by omega
  have HZ := Lib.hid hz
  have H20 := Lib.hid h20
  have HK := Lib.hid hkk
  clear hE hc h4 h20 hz hkk
  go_enter Tryd.func26, Tryd.ntmps26
  go_upto_region 6 with fail
  go_cut [53] from 26 to 53 (fun t53 wx => t53 = .bool false ∧ w = wx)
  case first =>
    by_cases hk1 : k = 1
    · have k1' : ¬ (1 : Int) < k := by omega
      clear hk1
      go_wp2_with fail
      go_meet
      exact ⟨by simp; try omega, rfl⟩
    · have k1' : (1 : Int) < k := by omega
      have hz0 : ¬ (s[0].toNat : Int) = 48 := fun h => HZ.out ⟨by omega, hp, h⟩
      clear hk1
      go_wp2_with fail
      go_meet
      exact ⟨by simp; try omega, rfl⟩
  case rest =>
    obtain ⟨rfl, rfl⟩ := hcut
    clear hp1b hp1 hpi hx k1 k17
    go_wp2_with fail
    go_loopw [8] (fun t8 wr => ∃ (i : Nat) (f : Nat → Int), t8 = .int .i64 i ∧ i ≤ s.size ∧ DigRows w wr f ∧ InR f ∧ Hid (val f 20 = numSkip s.data.toList k i) ∧ Hid (∀ j (hj : j < s.size), j < i → j ≠ k → 48 ≤ (s[j].toNat : Int) ∧ (s[j].toNat : Int) ≤ 57)) (fun t8 _ => s.size - (intOf t8).toNat)
    case atStart =>
      rw [zeros20]
      exact ⟨0, fun _ => 0, rfl, by omega, ⟨row_new w _, (Below.refl _ _).alloc (Nat.le_refl _) _⟩, fun _ _ => by simp, Lib.hid (val_zero 20), Lib.hid fun j _ h => absurd h (by omega)⟩
    case round =>
      obtain ⟨i, f, rfl, hi, HD, hfr, HF, HJ⟩ := hrel
      have HD := Lib.hid HD
      have gm := row_of _ _ _ HD.out.rm
      by_cases hlt : i < s.size
      · have hii : (i : Int) < s.size := by omega
        by_cases hik : i = k
        · have hiki : (i : Int) = k := by omega
          have HI := Lib.hid hik
          clear hik
          go_wp2_with fail
          have hik := HI.out
          subst hik
          have i20 := H20.out
          have ei : wrap64 ((i : Int) + 1) = ((i + 1 : Nat) : Int) := by unfold wrap64; omega
          try rw [ei]
          go_roundw
          case rel =>
            refine ⟨i + 1, f, by first | rfl | simp | go_num, by omega, HD.out, hfr, Lib.hid ?_, Lib.hid fun j hj h hne => HJ.out j hj (by omega) hne⟩
            rw [numSkip, if_pos rfl]; exact HF.out
          case measure => simp [intOf]; omega
        · have hiki : ¬ (i : Int) = k := by omega
          have HI := Lib.hid hik
          clear hik
          obtain ⟨c, hcc⟩ : ∃ c : Int, (s[i].toNat : Int) = c := ⟨_, rfl⟩
          have HC := Lib.hid hcc
          by_cases h1 : 48 ≤ c
          · by_cases h2 : c ≤ 57
            · have c0 : 0 ≤ c - 48 := by omega
              have c1 : c - 48 < 18446744073709551616 := by omega
              have e1 : IntKind.u8.wrap (c - 48) = c - 48 := by rw [IntKind.wrap_u8]; omega
              have e2 : IntKind.u64.wrap (c - 48) = c - 48 := by rw [IntKind.wrap_u64]; omega
              go_upto_region 15 with fail
              refine wp_region_any (by kernel_rfl) ?_
              change wpAny _ _ _ _ _ _ _ (World.drew _)
              have D0 : Hid (DigRows w wr.drew f) := Lib.hid (HD.out.drewN 1)
              generalize wr.drew = w0 at D0 ⊢
              refine wpAny_take (i := 3) (v := .string s) rfl (by kernel_rfl) (by kernel_rfl) (by kernel_rfl) (fun _ _ _ h => h) (Or.inl ⟨by rfl, fun _ => by go_simp⟩) ?_
              refine wpAny_take (i := 4) (v := .int .i64 i) rfl (by kernel_rfl) (by kernel_rfl) (by kernel_rfl) (fun _ _ _ h => h) (Or.inl ⟨by rfl, fun _ => by go_simp⟩) ?_
              refine wpAny_take (i := 5) (v := .int .u8 c) rfl (by kernel_rfl) (by kernel_rfl) (by kernel_rfl) (fun _ _ _ h => h) (Or.inl ⟨by rfl, fun _ => by go_simp⟩) ?_
              refine wpAny_take (i := 6) (v := .int .u8 (c - 48)) rfl (by kernel_rfl) (by kernel_rfl) (by kernel_rfl) (fun _ _ _ h => h) (Or.inl ⟨by rfl, fun _ => by go_simp⟩) ?_
              refine wpAny_take (i := 7) (v := .int .u64 (c - 48)) rfl (by kernel_rfl) (by kernel_rfl) (by kernel_rfl) (fun _ _ _ h => h) (Or.inl ⟨by rfl, fun _ => by go_simp⟩) ?_
              refine wpAny_ready (rs := [0, 1]) (by kernel_rfl) (by simp) ?_
              refine ready_load rfl rfl 58 _ rfl w.heap.size rfl 58 _ (0, 0) _ (row_of _ _ _ D0.out.rm) Tryd.underlying58 rfl (by kernel_rfl) ?_ ?_
              · refine wpAny_ready (rs := [1]) (by kernel_rfl) (by simp) ?_
                refine AllReady.cons rfl (fun K hK => ?_) AllReady.nil
                go_simp
                refine (of_any 10 _ (by decide) (by decide)).mono ?_
                rintro e w1 ⟨rfl, hb1⟩
                have D1 := Lib.hid (D0.out.keep hb1)
                refine hK _ _ ?_
                clear hK K
                refine wpAny_ready (rs := [2]) (by kernel_rfl) (by simp) ?_
                refine AllReady.cons rfl (fun K hK => ?_) AllReady.nil
                go_simp
                refine (times20_any _ _ _ hfr (ofD_in 10)).mono ?_
                rintro e w2 ⟨rfl, hb2⟩
                have D2 := Lib.hid (D1.out.keep hb2)
                refine hK _ _ ?_
                clear hK K
                refine wpAny_ready (rs := [8]) (by kernel_rfl) (by simp) ?_
                refine AllReady.cons rfl (fun K hK => ?_) AllReady.nil
                go_simp
                refine (of_any (c - 48) _ c0 c1).mono ?_
                rintro e w3 ⟨rfl, hb3⟩
                have D3 := Lib.hid (D2.out.keep hb3)
                refine hK _ _ ?_
                clear hK K
                refine wpAny_ready (rs := [9]) (by kernel_rfl) (by simp) ?_
                refine AllReady.cons rfl (fun K hK => ?_) AllReady.nil
                go_simp
                refine (plus_any _ _ _ (tf_in _ _ _) (ofD_in _)).mono ?_
                rintro e w4 ⟨rfl, hb4⟩
                have D4 := Lib.hid (D3.out.keep hb4)
                refine hK _ _ ?_
                clear hK K
                refine wpAny_ready (rs := [10]) (by kernel_rfl) (by simp) ?_
                have g4 := row_of _ _ _ D4.out.rm
                refine ready_store rfl rfl 58 _ _ rfl w.heap.size _ rfl rfl 58 _ g4 (by kernel_rfl) (by kernel_rfl) (by kernel_rfl) ?_ AllReady.nil
                refine wpAny_done (by kernel_rfl) ?_ _
                have D5 := Lib.hid (D4.out.set (pd (tf f (ofD 10) 20) (ofD (c - 48))))
                generalize w4.setRow w.heap.size (nat20 (pd (tf f (ofD 10) 20) (ofD (c - 48)))) = w5 at D5 ⊢
                clear D4 D3 D2 D1 D0 g4 gm
                simp only [Act.put, List.setIfInBounds_toArray]
                have i20 := H20.out
                have ei : wrap64 ((i : Int) + 1) = ((i + 1 : Nat) : Int) := by unfold wrap64; omega
                go_wp2_with fail
                try rw [ei]
                go_roundw
                case rel =>
                  have hJ2 := late_more HJ.out hlt (by rw [HC.out]; exact ⟨h1, h2⟩)
                  have hb := numSkip_bd s k i (by omega) HJ.out
                  refine ⟨i + 1, _, by first | rfl | simp | go_num, by omega, D5.out, fun i _ => pd_bd _ _ _, Lib.hid ?_, Lib.hid hJ2⟩
                  rw [step_val f c hfr (by rw [HF.out]; exact hb.1) (by rw [HF.out]; exact Int.lt_of_lt_of_le hb.2 (ten_le i (by omega))) h1 h2, HF.out]
                  have e : s.data.toList.getD i 0 = s[i] := getD_at s i hlt
                  rw [numSkip, if_neg HI.out, e, HC.out]
                case measure => simp [intOf]; omega
              · refine AllReady.cons rfl (fun K hK => ?_) AllReady.nil
                go_simp
                refine (of_any 10 _ (by decide) (by decide)).mono ?_
                rintro e w1 ⟨rfl, hb1⟩
                have D1 := Lib.hid (D0.out.keep hb1)
                refine hK _ _ ?_
                clear hK K
                refine wpAny_ready (rs := [0]) (by kernel_rfl) (by simp) ?_
                refine ready_load rfl rfl 58 _ rfl w.heap.size rfl 58 _ (0, 0) _ (row_of _ _ _ D1.out.rm) Tryd.underlying58 rfl (by kernel_rfl) ?_ ?_
                · refine wpAny_ready (rs := [2]) (by kernel_rfl) (by simp) ?_
                  refine AllReady.cons rfl (fun K hK => ?_) AllReady.nil
                  go_simp
                  refine (times20_any _ _ _ hfr (ofD_in 10)).mono ?_
                  rintro e w2 ⟨rfl, hb2⟩
                  have D2 := Lib.hid (D1.out.keep hb2)
                  refine hK _ _ ?_
                  clear hK K
                  refine wpAny_ready (rs := [8]) (by kernel_rfl) (by simp) ?_
                  refine AllReady.cons rfl (fun K hK => ?_) AllReady.nil
                  go_simp
                  refine (of_any (c - 48) _ c0 c1).mono ?_
                  rintro e w3 ⟨rfl, hb3⟩
                  have D3 := Lib.hid (D2.out.keep hb3)
                  refine hK _ _ ?_
                  clear hK K
                  refine wpAny_ready (rs := [9]) (by kernel_rfl) (by simp) ?_
                  refine AllReady.cons rfl (fun K hK => ?_) AllReady.nil
                  go_simp
                  refine (plus_any _ _ _ (tf_in _ _ _) (ofD_in _)).mono ?_
                  rintro e w4 ⟨rfl, hb4⟩
                  have D4 := Lib.hid (D3.out.keep hb4)
                  refine hK _ _ ?_
                  clear hK K
                  refine wpAny_ready (rs := [10]) (by kernel_rfl) (by simp) ?_
                  have g4 := row_of _ _ _ D4.out.rm
                  refine ready_store rfl rfl 58 _ _ rfl w.heap.size _ rfl rfl 58 _ g4 (by kernel_rfl) (by kernel_rfl) (by kernel_rfl) ?_ AllReady.nil
                  refine wpAny_done (by kernel_rfl) ?_ _
                  have D5 := Lib.hid (D4.out.set (pd (tf f (ofD 10) 20) (ofD (c - 48))))
                  generalize w4.setRow w.heap.size (nat20 (pd (tf f (ofD 10) 20) (ofD (c - 48)))) = w5 at D5 ⊢
                  clear D4 D3 D2 D1 D0 g4 gm
                  simp only [Act.put, List.setIfInBounds_toArray]
                  have i20 := H20.out
                  have ei : wrap64 ((i : Int) + 1) = ((i + 1 : Nat) : Int) := by unfold wrap64; omega
                  go_wp2_with fail
                  try rw [ei]
                  go_roundw
                  case rel =>
                    have hJ2 := late_more HJ.out hlt (by rw [HC.out]; exact ⟨h1, h2⟩)
                    have hb := numSkip_bd s k i (by omega) HJ.out
                    refine ⟨i + 1, _, by first | rfl | simp | go_num, by omega, D5.out, fun i _ => pd_bd _ _ _, Lib.hid ?_, Lib.hid hJ2⟩
                    rw [step_val f c hfr (by rw [HF.out]; exact hb.1) (by rw [HF.out]; exact Int.lt_of_lt_of_le hb.2 (ten_le i (by omega))) h1 h2, HF.out]
                    have e : s.data.toList.getD i 0 = s[i] := getD_at s i hlt
                    rw [numSkip, if_neg HI.out, e, HC.out]
                  case measure => simp [intOf]; omega
                · exact AllReady.nil
            · go_wp2_with fail
              go_ret2
              exact ⟨0, 7, rfl, Or.inl ⟨⟨i, hlt, HI.out, by rw [HC.out]; omega⟩, rfl, rfl⟩, HD.out.bl⟩
          · go_wp2_with fail
            go_ret2
            exact ⟨0, 7, rfl, Or.inl ⟨⟨i, hlt, HI.out, by rw [HC.out]; omega⟩, rfl, rfl⟩, HD.out.bl⟩
      · obtain rfl : i = s.size := by omega
        go_wp2_with (first | (with_reducible refine wpList_load_row rfl 58 _ rfl w.heap.size rfl 58 _ (0, 0) _ gm Tryd.underlying58 rfl (by kernel_rfl) ?_) | (go_at_call 32; refine (back_any _ _ _ hfr).mono ?_; rintro e w1 ⟨rfl, hb1⟩))
        all_goals
          rename_i hx
          go_ret2
          refine ⟨_, _, rfl, Or.inr ⟨fun j hj hne => HJ.out j hj hj hne, ?_⟩, below_then HD.out.bl hb1⟩
          unfold backRes
          rw [← HF.out]
          simp at hx
          simp [hx]

set_option maxRecDepth 100000 in
set_option maxHeartbeats 4000000 in
theorem refRead_late_minus (s d : ByteArray) (k : Nat) (w : World) (h0 : 0 < s.size) (hc : (s[0].toNat : Int) = 45) (hd : s.extract 1 s.size = d) (hs : s.size ≤ 9223372036854775807) (hE : ¬ Early d true) (hkk : d.size - 3 = k) :
    Calls Tryd.prog 26 #[.string s] w fun e w' => ∃ v er, e = .returned (.tuple #[.int .i64 v, .int .i64 er]) ∧ Late d k true v er ∧ Below w.heap.size w w' := by
  have h4 : 4 ≤ d.size := Nat.le_of_not_lt fun h => hE (Or.inl h)
  have h20 : d.size ≤ 20 := Nat.le_of_not_lt fun h => hE (Or.inr (Or.inl h))
  have hlt : k < d.size := by omega
  have hx : (d[k].toNat : Int) = 46 := Decidable.byContradiction fun h => hE (Or.inr (Or.inr (Or.inl ⟨h4, by subst hkk; exact h⟩)))
  have hz : ¬ (1 < k ∧ ∃ h : 0 < d.size, (d[0].toNat : Int) = 48) := fun h => hE (Or.inr (Or.inr (Or.inr (Or.inl ⟨by omega, h.2.2⟩))))
  have hne : ¬ d = ⟨#[48, 46, 48, 48]⟩ := fun h => hE (Or.inr (Or.inr (Or.inr (Or.inr ⟨rfl, h⟩))))
  have hp : 0 < d.size := by omega
  have hpi : (0 : Int) < d.size := by omega
  have h0i : (0 : Int) < s.size := by omega
  have hsz : (d.size : Int) ≤ 9223372036854775807 := by omega
  have hk : (d.size : Int) - 3 = k := by omega
  have k1 : (1 : Int) ≤ k := by omega
  have k17 : (k : Int) ≤ 17 := by omega
  have hli : (k : Int) < d.size := by omega
  have HZ := Lib.hid hz
  have H20 := Lib.hid h20
  have HK := Lib.hid hkk
  have HNE := Lib.hid hne
  clear hE h4 h20 hz hkk hne
  go_enter Tryd.func26, Tryd.ntmps26
  go_upto_region 5 with fail
  clear hd hc h0i h0 hs
  go_upto_region 6 with fail
  have hne := HNE.out
  have hnl : ¬ d.toList = [48, 46, 48, 48] := fun h => hne (WideShapes.bytes_inj (by rw [← Lib.toList_data d, h]))
  go_cut [53] from 26 to 53 (fun t53 wx => t53 = .bool false ∧ w = wx)
  case first =>
    by_cases hk1 : k = 1
    · have k1' : ¬ (1 : Int) < k := by omega
      clear hk1
      go_wp2_with fail
      go_meet
      exact ⟨by simp [*]; try omega, rfl⟩
    · have k1' : (1 : Int) < k := by omega
      have hz0 : ¬ (d[0].toNat : Int) = 48 := fun h => HZ.out ⟨by omega, hp, h⟩
      clear hk1
      go_wp2_with fail
      go_meet
      exact ⟨by simp [*]; try omega, rfl⟩
  case rest =>
    obtain ⟨rfl, rfl⟩ := hcut
    clear hne hnl hpi hx k1 k17
    go_wp2_with fail
    go_loopw [8] (fun t8 wr => ∃ (i : Nat) (f : Nat → Int), t8 = .int .i64 i ∧ i ≤ d.size ∧ DigRows w wr f ∧ InR f ∧ Hid (val f 20 = numSkip d.data.toList k i) ∧ Hid (∀ j (hj : j < d.size), j < i → j ≠ k → 48 ≤ (d[j].toNat : Int) ∧ (d[j].toNat : Int) ≤ 57)) (fun t8 _ => d.size - (intOf t8).toNat)
    case atStart =>
      rw [zeros20]
      exact ⟨0, fun _ => 0, rfl, by omega, ⟨row_new w _, (Below.refl _ _).alloc (Nat.le_refl _) _⟩, fun _ _ => by simp, Lib.hid (val_zero 20), Lib.hid fun j _ h => absurd h (by omega)⟩
    case round =>
      obtain ⟨i, f, rfl, hi, HD, hfr, HF, HJ⟩ := hrel
      have HD := Lib.hid HD
      have gm := row_of _ _ _ HD.out.rm
      by_cases hlt : i < d.size
      · have hii : (i : Int) < d.size := by omega
        by_cases hik : i = k
        · have hiki : (i : Int) = k := by omega
          have HI := Lib.hid hik
          clear hik
          go_wp2_with fail
          have hik := HI.out
          subst hik
          have i20 := H20.out
          have ei : wrap64 ((i : Int) + 1) = ((i + 1 : Nat) : Int) := by unfold wrap64; omega
          try rw [ei]
          go_roundw
          case rel =>
            refine ⟨i + 1, f, by first | rfl | simp | go_num, by omega, HD.out, hfr, Lib.hid ?_, Lib.hid fun j hj h hne => HJ.out j hj (by omega) hne⟩
            rw [numSkip, if_pos rfl]; exact HF.out
          case measure => simp [intOf]; omega
        · have hiki : ¬ (i : Int) = k := by omega
          have HI := Lib.hid hik
          clear hik
          obtain ⟨c, hcc⟩ : ∃ c : Int, (d[i].toNat : Int) = c := ⟨_, rfl⟩
          have HC := Lib.hid hcc
          by_cases h1 : 48 ≤ c
          · by_cases h2 : c ≤ 57
            · have c0 : 0 ≤ c - 48 := by omega
              have c1 : c - 48 < 18446744073709551616 := by omega
              have e1 : IntKind.u8.wrap (c - 48) = c - 48 := by rw [IntKind.wrap_u8]; omega
              have e2 : IntKind.u64.wrap (c - 48) = c - 48 := by rw [IntKind.wrap_u64]; omega
              go_upto_region 15 with fail
              refine wp_region_any (by kernel_rfl) ?_
              change wpAny _ _ _ _ _ _ _ (World.drew _)
              have D0 : Hid (DigRows w wr.drew f) := Lib.hid (HD.out.drewN 1)
              generalize wr.drew = w0 at D0 ⊢
              refine wpAny_take (i := 3) (v := .string d) rfl (by kernel_rfl) (by kernel_rfl) (by kernel_rfl) (fun _ _ _ h => h) (Or.inl ⟨by rfl, fun _ => by go_simp⟩) ?_
              refine wpAny_take (i := 4) (v := .int .i64 i) rfl (by kernel_rfl) (by kernel_rfl) (by kernel_rfl) (fun _ _ _ h => h) (Or.inl ⟨by rfl, fun _ => by go_simp⟩) ?_
              refine wpAny_take (i := 5) (v := .int .u8 c) rfl (by kernel_rfl) (by kernel_rfl) (by kernel_rfl) (fun _ _ _ h => h) (Or.inl ⟨by rfl, fun _ => by go_simp⟩) ?_
              refine wpAny_take (i := 6) (v := .int .u8 (c - 48)) rfl (by kernel_rfl) (by kernel_rfl) (by kernel_rfl) (fun _ _ _ h => h) (Or.inl ⟨by rfl, fun _ => by go_simp⟩) ?_
              refine wpAny_take (i := 7) (v := .int .u64 (c - 48)) rfl (by kernel_rfl) (by kernel_rfl) (by kernel_rfl) (fun _ _ _ h => h) (Or.inl ⟨by rfl, fun _ => by go_simp⟩) ?_
              refine wpAny_ready (rs := [0, 1]) (by kernel_rfl) (by simp) ?_
              refine ready_load rfl rfl 58 _ rfl w.heap.size rfl 58 _ (0, 0) _ (row_of _ _ _ D0.out.rm) Tryd.underlying58 rfl (by kernel_rfl) ?_ ?_
              · refine wpAny_ready (rs := [1]) (by kernel_rfl) (by simp) ?_
                refine AllReady.cons rfl (fun K hK => ?_) AllReady.nil
                go_simp
                refine (of_any 10 _ (by decide) (by decide)).mono ?_
                rintro e w1 ⟨rfl, hb1⟩
                have D1 := Lib.hid (D0.out.keep hb1)
                refine hK _ _ ?_
                clear hK K
                refine wpAny_ready (rs := [2]) (by kernel_rfl) (by simp) ?_
                refine AllReady.cons rfl (fun K hK => ?_) AllReady.nil
                go_simp
                refine (times20_any _ _ _ hfr (ofD_in 10)).mono ?_
                rintro e w2 ⟨rfl, hb2⟩
                have D2 := Lib.hid (D1.out.keep hb2)
                refine hK _ _ ?_
                clear hK K
                refine wpAny_ready (rs := [8]) (by kernel_rfl) (by simp) ?_
                refine AllReady.cons rfl (fun K hK => ?_) AllReady.nil
                go_simp
                refine (of_any (c - 48) _ c0 c1).mono ?_
                rintro e w3 ⟨rfl, hb3⟩
                have D3 := Lib.hid (D2.out.keep hb3)
                refine hK _ _ ?_
                clear hK K
                refine wpAny_ready (rs := [9]) (by kernel_rfl) (by simp) ?_
                refine AllReady.cons rfl (fun K hK => ?_) AllReady.nil
                go_simp
                refine (plus_any _ _ _ (tf_in _ _ _) (ofD_in _)).mono ?_
                rintro e w4 ⟨rfl, hb4⟩
                have D4 := Lib.hid (D3.out.keep hb4)
                refine hK _ _ ?_
                clear hK K
                refine wpAny_ready (rs := [10]) (by kernel_rfl) (by simp) ?_
                have g4 := row_of _ _ _ D4.out.rm
                refine ready_store rfl rfl 58 _ _ rfl w.heap.size _ rfl rfl 58 _ g4 (by kernel_rfl) (by kernel_rfl) (by kernel_rfl) ?_ AllReady.nil
                refine wpAny_done (by kernel_rfl) ?_ _
                have D5 := Lib.hid (D4.out.set (pd (tf f (ofD 10) 20) (ofD (c - 48))))
                generalize w4.setRow w.heap.size (nat20 (pd (tf f (ofD 10) 20) (ofD (c - 48)))) = w5 at D5 ⊢
                clear D4 D3 D2 D1 D0 g4 gm
                simp only [Act.put, List.setIfInBounds_toArray]
                have i20 := H20.out
                have ei : wrap64 ((i : Int) + 1) = ((i + 1 : Nat) : Int) := by unfold wrap64; omega
                go_wp2_with fail
                try rw [ei]
                go_roundw
                case rel =>
                  have hJ2 := late_more HJ.out hlt (by rw [HC.out]; exact ⟨h1, h2⟩)
                  have hb := numSkip_bd d k i (by omega) HJ.out
                  refine ⟨i + 1, _, by first | rfl | simp | go_num, by omega, D5.out, fun i _ => pd_bd _ _ _, Lib.hid ?_, Lib.hid hJ2⟩
                  rw [step_val f c hfr (by rw [HF.out]; exact hb.1) (by rw [HF.out]; exact Int.lt_of_lt_of_le hb.2 (ten_le i (by omega))) h1 h2, HF.out]
                  have e : d.data.toList.getD i 0 = d[i] := getD_at d i hlt
                  rw [numSkip, if_neg HI.out, e, HC.out]
                case measure => simp [intOf]; omega
              · refine AllReady.cons rfl (fun K hK => ?_) AllReady.nil
                go_simp
                refine (of_any 10 _ (by decide) (by decide)).mono ?_
                rintro e w1 ⟨rfl, hb1⟩
                have D1 := Lib.hid (D0.out.keep hb1)
                refine hK _ _ ?_
                clear hK K
                refine wpAny_ready (rs := [0]) (by kernel_rfl) (by simp) ?_
                refine ready_load rfl rfl 58 _ rfl w.heap.size rfl 58 _ (0, 0) _ (row_of _ _ _ D1.out.rm) Tryd.underlying58 rfl (by kernel_rfl) ?_ ?_
                · refine wpAny_ready (rs := [2]) (by kernel_rfl) (by simp) ?_
                  refine AllReady.cons rfl (fun K hK => ?_) AllReady.nil
                  go_simp
                  refine (times20_any _ _ _ hfr (ofD_in 10)).mono ?_
                  rintro e w2 ⟨rfl, hb2⟩
                  have D2 := Lib.hid (D1.out.keep hb2)
                  refine hK _ _ ?_
                  clear hK K
                  refine wpAny_ready (rs := [8]) (by kernel_rfl) (by simp) ?_
                  refine AllReady.cons rfl (fun K hK => ?_) AllReady.nil
                  go_simp
                  refine (of_any (c - 48) _ c0 c1).mono ?_
                  rintro e w3 ⟨rfl, hb3⟩
                  have D3 := Lib.hid (D2.out.keep hb3)
                  refine hK _ _ ?_
                  clear hK K
                  refine wpAny_ready (rs := [9]) (by kernel_rfl) (by simp) ?_
                  refine AllReady.cons rfl (fun K hK => ?_) AllReady.nil
                  go_simp
                  refine (plus_any _ _ _ (tf_in _ _ _) (ofD_in _)).mono ?_
                  rintro e w4 ⟨rfl, hb4⟩
                  have D4 := Lib.hid (D3.out.keep hb4)
                  refine hK _ _ ?_
                  clear hK K
                  refine wpAny_ready (rs := [10]) (by kernel_rfl) (by simp) ?_
                  have g4 := row_of _ _ _ D4.out.rm
                  refine ready_store rfl rfl 58 _ _ rfl w.heap.size _ rfl rfl 58 _ g4 (by kernel_rfl) (by kernel_rfl) (by kernel_rfl) ?_ AllReady.nil
                  refine wpAny_done (by kernel_rfl) ?_ _
                  have D5 := Lib.hid (D4.out.set (pd (tf f (ofD 10) 20) (ofD (c - 48))))
                  generalize w4.setRow w.heap.size (nat20 (pd (tf f (ofD 10) 20) (ofD (c - 48)))) = w5 at D5 ⊢
                  clear D4 D3 D2 D1 D0 g4 gm
                  simp only [Act.put, List.setIfInBounds_toArray]
                  have i20 := H20.out
                  have ei : wrap64 ((i : Int) + 1) = ((i + 1 : Nat) : Int) := by unfold wrap64; omega
                  go_wp2_with fail
                  try rw [ei]
                  go_roundw
                  case rel =>
                    have hJ2 := late_more HJ.out hlt (by rw [HC.out]; exact ⟨h1, h2⟩)
                    have hb := numSkip_bd d k i (by omega) HJ.out
                    refine ⟨i + 1, _, by first | rfl | simp | go_num, by omega, D5.out, fun i _ => pd_bd _ _ _, Lib.hid ?_, Lib.hid hJ2⟩
                    rw [step_val f c hfr (by rw [HF.out]; exact hb.1) (by rw [HF.out]; exact Int.lt_of_lt_of_le hb.2 (ten_le i (by omega))) h1 h2, HF.out]
                    have e : d.data.toList.getD i 0 = d[i] := getD_at d i hlt
                    rw [numSkip, if_neg HI.out, e, HC.out]
                  case measure => simp [intOf]; omega
                · exact AllReady.nil
            · go_wp2_with fail
              go_ret2
              exact ⟨0, 7, rfl, Or.inl ⟨⟨i, hlt, HI.out, by rw [HC.out]; omega⟩, rfl, rfl⟩, HD.out.bl⟩
          · go_wp2_with fail
            go_ret2
            exact ⟨0, 7, rfl, Or.inl ⟨⟨i, hlt, HI.out, by rw [HC.out]; omega⟩, rfl, rfl⟩, HD.out.bl⟩
      · obtain rfl : i = d.size := by omega
        go_wp2_with (first | (with_reducible refine wpList_load_row rfl 58 _ rfl w.heap.size rfl 58 _ (0, 0) _ gm Tryd.underlying58 rfl (by kernel_rfl) ?_) | (go_at_call 32; refine (back_any _ _ _ hfr).mono ?_; rintro e w1 ⟨rfl, hb1⟩))
        all_goals
          rename_i hx
          go_ret2
          refine ⟨_, _, rfl, Or.inr ⟨fun j hj hne => HJ.out j hj hj hne, ?_⟩, below_then HD.out.bl hb1⟩
          unfold backRes
          rw [← HF.out]
          simp at hx
          simp [hx]

end Go.Proofs.YtefkabkncmflpaaDoor
