/-
  Walks: a heap of lists of entries: the first is taken out. Plain: lists in order, made one: what is kept while the least is taken out.
-/
import Derived.Test.YtcffpkflijpdjaaCJ05
import Derived.Test.YtcffpkflijpdjaaCJ06
set_option linter.unusedSimpArgs false
set_option linter.unusedVariables false
namespace Go.Proofs.Ytcffpkflijpdjaa
open Go.RowKit
theorem sizeGl (W : World) : (sizeOf (Try.prog.elem 42)).run Try.prog W = .ok 1 W := by
  have h : Try.prog.elem 42 = 22 := by kernel_rfl
  obtain ⟨i, hi, hz0, hz1, hz2⟩ := info_parts info22
  rw [h]
  simp [sizeOf, typeInfo, hi, hz1]
theorem underGl : Try.prog.underlying 42 = some (.slice (Try.prog.elem 42)) := by kernel_rfl
/-- l[:k] -/
theorem slice_highG (A : Option Addr) (k n c : Nat) (hk : k ≤ n) (hc : n ≤ c) : ∀ W, (Instr.slice 42 (.slice A n c) none (some (.int .i64 (k : Int))) none).run Try.prog W = .ok (.slice A k c) W := fun W => by
  rw [run_slice_h (P := Try.prog) W _ A n c underGl .i64 (k : Int) (by omega) (by omega), sizeGl]
  cases A <;> simp [Result.andThen, sliced, Addr.add]
/-- The heap's row is cut. -/
theorem Hp.cut {w0 W : World} {hb c : Nat} {A : Option Addr} {T : List Gl} (h : Hp w0 W hb A c T) {k : Nat} (hk : k ≤ T.length) : (W.cell? ⟨hb, 0, none⟩ = some (.slice A T.length c) ∧ W.frozen? ⟨hb, 0, none⟩ = false) ∧ Hp w0 (W.setCell ⟨hb, 0, none⟩ (.slice A k c)) hb A c (T.take k) ∧ Bes W (W.setCell ⟨hb, 0, none⟩ (.slice A k c)) := by
  have ho := h.obj
  have hne : ∀ ad, A = some ad → ad.block ≠ hb := fun ad ha e => by
    subst ha
    rcases h.row.2 with ⟨q, _⟩ | ⟨g', cap, cur, q, _, h2, _⟩
    · cases q
    · injection q with q
      injection q with q
      subst q
      rw [show g' = hb from e, ho] at h2
      injection h2 with h2
      injection h2 with _ h2
      exact absurd h2 (by decide)
  refine ⟨⟨by simp [World.cell?, ho], by simp [World.frozen?, ho]⟩, ⟨h.low, ?_, ?_, ?_, fun s hs => h.ins s (List.mem_of_mem_take hs)⟩, (Bes.refl W).set ho (by decide)⟩
  · rw [List.length_take, Nat.min_eq_left hk]
    simp [World.setCell, Array.getElem?_modify, ho]
  · exact own_kp (h.row.high k hk) ((Kp.refl (fun j => j ≠ hb) W).set hb 0 _ (by simp)) (fun ad ha => hne ad ha)
  · exact ((Kp.of_below h.bel).set hb 0 _ (by have := h.low; omega)).below (fun _ hk => hk)
/-- Both children stand behind. -/
theorem leG_of {s t : Gl} (h : ordE (hdE s) (hdE t) < 0) : leG s t := by unfold leG leE; omega
theorem kids_two {T2 : List Gl} {m0 m1 k : Nat} {a b x : Gl} (hk : ∀ i, 0 < i → (i - 1) / 2 = k → i = m0 ∨ i = m1) (hb : T2[m0]? = some b) (ha : T2[m1]? = some a) (h1 : leG x b) (h2 : leG x a) : ∀ (i : Nat) (s' : Gl), 0 < i → (i - 1) / 2 = k → T2[i]? = some s' → leG x s' := fun i s' h0 hi hs => by
  rcases hk i h0 hi with e | e
  · rw [e, hb] at hs
    injection hs with hs
    exact hs ▸ h1
  · rw [e, ha] at hs
    injection hs with hs
    exact hs ▸ h2
theorem kids_one {T2 : List Gl} {m0 m1 k : Nat} {b : Gl} (hk : ∀ i, 0 < i → (i - 1) / 2 = k → i = m0 ∨ i = m1) (hb : T2[m0]? = some b) (hm : T2.length ≤ m1) : ∀ (i : Nat) (s' : Gl), 0 < i → (i - 1) / 2 = k → T2[i]? = some s' → leG b s' := fun i s' h0 hi hs => by
  rcases hk i h0 hi with e | e
  · rw [e, hb] at hs
    injection hs with hs
    exact hs ▸ leG_refl _
  · have := (List.getElem?_eq_some_iff.1 hs).1
    omega
theorem down_last {T2 : List Gl} {k : Nat} {q x : Gl} (hq : T2[k]? = some q) (h1 : leG q x) (h2 : ∀ (i : Nat) (s' : Gl), 0 < i → (i - 1) / 2 = k → T2[i]? = some s' → leG x s') : ∀ (i : Nat) (s p : Gl), 0 < i → (i - 1) / 2 = k → T2[i]? = some s → T2[k]? = some p → leG p s := fun i s p h0 hi hs hp => by
  rw [hq] at hp
  injection hp with hp
  exact hp ▸ leG_trans _ _ _ h1 (h2 i s h0 hi hs)
set_option maxRecDepth 100000 in
set_option maxHeartbeats 16000000 in
theorem take_any {w0 W : World} {hb : Nat} {A : Option Addr} {c : Nat} {T : List Gl} (h : Hp w0 W hb A c T) (hq : Heaped leG T) (hne : T ≠ []) (h9 : T.length * 24 ≤ 140737488355328) : Calls Try.prog 84 #[.pointer (some ⟨hb, 0, none⟩)] W fun e w' => ∃ (s : Gl) (A' : Option Addr) (c' : Nat) (T' : List Gl), e = .returned s.val ∧ T[0]? = some s ∧ Hp w0 w' hb A' c' T' ∧ Heaped leG T' ∧ (s :: T').Perm T ∧ Bes W w' := by
  have HH := Lib.hid h
  have HQ := Lib.hid hq
  obtain ⟨n, hn⟩ : ∃ n, T.length = n + 1 := ⟨T.length - 1, by have := List.length_pos_iff.2 hne; omega⟩
  have HN := Lib.hid hn
  have hs := List.getElem?_eq_getElem (l := T) (i := 0) (by omega)
  generalize T[0]'(by omega) = s at hs
  obtain ⟨g, rfl, -⟩ := h.at_ hs
  obtain ⟨sn, hsn⟩ : ∃ m, s.l.length = m := ⟨_, rfl⟩
  have HS0 := Lib.hid hs
  have HSN := Lib.hid hsn
  have HC : Hid (W.cell? ⟨hb, 0, none⟩ = some (.slice (some ⟨g, 0, none⟩) (n + 1) c) ∧ W.cell? ⟨g, 0, none⟩ = some (.slice s.a sn s.c)) := Lib.hid (by
    obtain ⟨g1, e1, a1⟩ := h.at_ hs
    injection e1 with e1
    injection e1 with e1
    subst e1
    have := h.cells.1
    rw [hn] at this
    unfold Gl.val at a1
    rw [hsn] at a1
    exact ⟨this, a1⟩)
  have hn9 : (n : Int) + 1 ≤ 5864062014805 := by omega
  have w1 : wrap64 ((n : Int) + 1 - 1) = (n : Int) := by unfold wrap64; omega
  have w2 : wrap64 (((n + 1 : Nat) : Int) - 1) = (n : Int) := by unfold wrap64; omega
  have n1 : (0 : Int) < (n : Int) + 1 := by omega
  have n2 : 0 < n + 1 := by omega
  clear h hq hne h9 hn hs hsn
  go_enter Try.func84, Try.ntmps84
  go_upto_region 1 with fail
  go_region_held3 (fun V => V.cell? ⟨hb, 0, none⟩ = some (.slice (some ⟨g, 0, none⟩) (n + 1) c) ∧ V.cell? ⟨g, 0, none⟩ = some (.slice s.a sn s.c)) (first | exact HC.out | go_keep) (first
    | (go_at_call 83; refine (hlen_any (HH.out.kept (Below.refl _ _).drew)).mono ?_; rw [HN.out]; rintro e w' ⟨rfl, hw'⟩; subst hw'))
  have w3 : IntKind.i64.wrap (n : Int) = (n : Int) := by rw [IntKind.wrap_i64]; omega
  try rw [w3]
  have HN9 := Lib.hid hn9
  clear w1 w2 w3 n1 n2 hn9
  have HP1 : Hid (Hp w0 W.drew hb (some ⟨g, 0, none⟩) c T) := Lib.hid (HH.out.kept (Below.refl _ _).drew)
  have HSW : Hid (∀ V, Hp w0 V hb (some ⟨g, 0, none⟩) c T → Calls Try.prog 97 #[.pointer (some ⟨hb, 0, none⟩), .int .i64 0, .int .i64 n] V fun e w' => e = .returned (.tuple #[]) ∧ Hp w0 w' hb (some ⟨g, 0, none⟩) c (swapL T 0 n) ∧ Bes V w') := Lib.hid (fun V hV => swap_any hV 0 n (by have := HN.out; omega) (by have := HN.out; omega))
  go_upto_region 3 with (go_at_call 97; refine (HSW.out _ HP1.out).mono ?_; rintro e w5 ⟨rfl, h5, b5⟩; have H5 : Hid (Hp w0 w5 hb (some ⟨g, 0, none⟩) c (swapL T 0 n) ∧ Bes W w5) := Lib.hid ⟨h5, b5⟩; clear h5 b5)
  have HSL : Hid ((swapL T 0 n).length = n + 1) := Lib.hid (by rw [swapL_len]; exact HN.out)
  obtain ⟨⟨c0, f0⟩, h6⟩ := H5.out.1.cut (k := n) (by have := HSL.out; omega)
  rw [HSL.out] at c0
  have sh := slice_highG (some ⟨g, 0, none⟩) n (n + 1) c (by omega) (by have := (own_cap H5.out.1.row).1; have := HSL.out; omega)
  have H6 : Hid (Hp w0 (w5.setCell ⟨hb, 0, none⟩ (.slice (some ⟨g, 0, none⟩) n c)) hb (some ⟨g, 0, none⟩) c ((swapL T 0 n).take n) ∧ Bes W (w5.setCell ⟨hb, 0, none⟩ (.slice (some ⟨g, 0, none⟩) n c))) := Lib.hid ⟨h6.1, H5.out.2.trans h6.2⟩
  clear h6
  go_upto_region 4 with fail
  clear c0 f0 sh
  obtain ⟨w6, hw6⟩ : ∃ w6, w5.setCell ⟨hb, 0, none⟩ (.slice (some ⟨g, 0, none⟩) n c) = w6 := ⟨_, rfl⟩
  rw [hw6] at H6 ⊢
  clear hw6
  obtain ⟨U, hU⟩ : ∃ U, (swapL T 0 n).take n = U := ⟨_, rfl⟩
  have hget := swapL_get (T := T) (i := 0) (k := n) (by have := HN.out; omega) (by have := HN.out; omega)
  have HUL : Hid (U.length = n) := Lib.hid (by rw [← hU, List.length_take, HSL.out]; omega)
  have HUD : Hid (HeapDown leG U 0) := Lib.hid (heaped_down HQ.out (fun i h0 hi => by
    have hi' : i < n := by have := HUL.out; omega
    rw [← hU, List.getElem?_take_of_lt hi', hget, if_neg (by omega), if_neg (by omega)]))
  have HUP : Hid ((s :: U).Perm T) := Lib.hid (by
    have h1 : swapL T 0 n = U ++ [s] := by
      have h2 : (swapL T 0 n)[n]? = some s := by rw [hget, if_pos rfl]; exact HS0.out
      have h3 : swapL T 0 n = (swapL T 0 n).take (n + 1) := (List.take_of_length_le (by rw [HSL.out]; exact Nat.le_refl _)).symm
      rw [h3, List.take_add_one, h2, hU]
      rfl
    have h4 := swapL_perm (T := T) (i := 0) (k := n) (by have := HN.out; omega) (by have := HN.out; omega)
    rw [h1] at h4
    exact ((List.perm_append_comm (l₁ := [s]) (l₂ := U))).trans h4)
  rw [hU] at H6
  clear hU hget
  go_wp2_with fail
  go_loopw [5] (fun t5 wr => ∃ (k : Nat) (T2 : List Gl), t5 = .int .i64 k ∧ Hid (Hp w0 wr hb (some ⟨g, 0, none⟩) c T2 ∧ HeapDown leG T2 k ∧ T2.Perm U ∧ k ≤ n ∧ Bes W wr)) (fun t5 _ => n - (intOf t5).toNat)
  case atStart => exact ⟨0, U, rfl, Lib.hid ⟨H6.out.1, HUD.out, List.Perm.refl _, Nat.zero_le _, H6.out.2⟩⟩
  case round =>
    obtain ⟨k, T2, rfl, hr⟩ := hrel
    have HL2 : Hid (T2.length = n) := Lib.hid (by rw [hr.out.2.2.1.length_eq, HUL.out])
    have HK9 : Hid ((k : Int) ≤ 2305843009213693952) := Lib.hid (by have := hr.out.2.2.2.1; have := HN9.out; omega)
    obtain ⟨m0, hm0⟩ : ∃ m, 2 * k + 1 = m := ⟨_, rfl⟩
    have HM0 := Lib.hid hm0
    by_cases h1 : m0 < n
    · have z0 : (m0 : Int) < n := by omega
      obtain ⟨m1, hm1⟩ : ∃ m, m0 + 1 = m := ⟨_, rfl⟩
      have HM1 := Lib.hid hm1
      have Z1 : Hid (wrap64 ((m0 : Int) + 1) = (m1 : Int)) := Lib.hid (by have := HN9.out; unfold wrap64; omega)
      have hbm := List.getElem?_eq_getElem (l := T2) (i := m0) (by have := HL2.out; omega)
      generalize T2[m0]'(by have := HL2.out; omega) = b at hbm
      have HB := Lib.hid hbm
      have H1 := Lib.hid h1
      clear hm0 hm1 hbm
      go_upto_region 7 with (go_at_call 98; refine (child_any k _ HK9.out).mono ?_; rw [HM0.out]; rintro e w' ⟨rfl, hw'⟩; subst hw')
      have z1 := Z1.out
      have KID : Hid (∀ i, 0 < i → (i - 1) / 2 = k → i = m0 ∨ i = m1) := Lib.hid (fun i h0 hi => by have := HM0.out; have := HM1.out; omega)
      have PAR : Hid ((0 < m0 ∧ (m0 - 1) / 2 = k ∧ k < m0) ∧ 0 < m1 ∧ (m1 - 1) / 2 = k ∧ k < m1) := Lib.hid (by have := HM0.out; have := HM1.out; omega)
      by_cases h2 : m1 < n
      · have y1 : (m1 : Int) < n := by omega
        have ham := List.getElem?_eq_getElem (l := T2) (i := m1) (by have := HL2.out; omega)
        generalize T2[m1]'(by have := HL2.out; omega) = a at ham
        have HA := Lib.hid ham
        have H2 := Lib.hid h2
        clear ham
        by_cases h3 : ordE (hdE a) (hdE b) < 0
        · have H3 := Lib.hid (leG_of h3)
          have HDD := Lib.hid (decide_eq_true h3)
          clear h3
          go_upto_region 9 with (go_at_call 95; refine (isAhead_any hr.out.1 m1 m0 a b HA.out HB.out).mono ?_; rw [HDD.out]; rintro e w7 ⟨rfl, b7⟩; have H7 : Hid (Hp w0 w7 hb (some ⟨g, 0, none⟩) c T2 ∧ Bes W w7) := Lib.hid ⟨hr.out.1.kept b7, hr.out.2.2.2.2.trans (Bes.of_below b7)⟩; clear b7)
          try rw [z1]
          clear z1
          have hC : Hid ((Hp w0 w7 hb (some ⟨g, 0, none⟩) c T2 ∧ Bes W w7) ∧ (0 < m1 ∧ (m1 - 1) / 2 = k ∧ m1 < n ∧ k < m1) ∧ T2[m1]? = some a ∧ ∀ i s', 0 < i → (i - 1) / 2 = k → T2[i]? = some s' → leG a s') := Lib.hid ⟨H7.out, ⟨PAR.out.2.1, PAR.out.2.2.1, H2.out, PAR.out.2.2.2⟩, HA.out, kids_two KID.out HB.out HA.out H3.out (leG_refl _)⟩
          have hqm := List.getElem?_eq_getElem (l := T2) (i := k) (by have := HL2.out; have := hC.out.2.1; omega)
          generalize T2[k]'(by have := HL2.out; have := hC.out.2.1; omega) = q at hqm
          have HQM := Lib.hid hqm
          clear hqm
          by_cases h4 : ordE (hdE a) (hdE q) < 0
          · have H4 := Lib.hid h4
            have HD9 := Lib.hid (decide_eq_true h4)
            clear h4
            go_wp2_with (first
              | (go_at_call 95; refine (isAhead_any hC.out.1.1 m1 k a q hC.out.2.2.1 HQM.out).mono ?_; rw [HD9.out]; rintro e w9 ⟨rfl, b7⟩; have H9 : Hid (Hp w0 w9 hb (some ⟨g, 0, none⟩) c T2 ∧ Bes W w9) := Lib.hid ⟨hC.out.1.1.kept b7, hC.out.1.2.trans (Bes.of_below b7)⟩; clear b7)
              | (go_at_call 97; refine (swap_any H9.out.1 m1 k (by have := HL2.out; have := hC.out.2.1; omega) (by have := HL2.out; have := hC.out.2.1; omega)).mono ?_; rintro e w8 ⟨rfl, h8, b8⟩; have H8 : Hid (Hp w0 w8 hb (some ⟨g, 0, none⟩) c (swapL T2 m1 k) ∧ Bes W w8) := Lib.hid ⟨h8, H9.out.2.trans b8⟩; clear h8 b8))
            go_roundw
            case rel => exact ⟨m1, swapL T2 m1 k, by go_num, Lib.hid ⟨H8.out.1, down_step leG_trans hr.out.2.1 hC.out.2.1.1 hC.out.2.1.2.1 hC.out.2.2.1 HQM.out (leG_of H4.out) hC.out.2.2.2, (swapL_perm (by have := HL2.out; have := hC.out.2.1; omega) (by have := HL2.out; have := hC.out.2.1; omega)).trans hr.out.2.2.1, by have := hC.out.2.1; omega, H8.out.2⟩⟩
            case measure => have := hC.out.2.1; simp [intOf]; omega
          · have H4 : Hid (leG q a) := Lib.hid (not_ahead h4)
            have HD9 := Lib.hid (decide_eq_false h4)
            clear h4
            go_wp2_with (go_at_call 95; refine (isAhead_any hC.out.1.1 m1 k a q hC.out.2.2.1 HQM.out).mono ?_; rw [HD9.out]; rintro e w9 ⟨rfl, b7⟩; have H9 : Hid (Hp w0 w9 hb (some ⟨g, 0, none⟩) c T2 ∧ Bes W w9) := Lib.hid ⟨hC.out.1.1.kept b7, hC.out.1.2.trans (Bes.of_below b7)⟩; clear b7)
            go_ret
            exact ⟨s, _, c, T2, by unfold Gl.val; rw [HSN.out]; try rfl, HS0.out, H9.out.1, down_done hr.out.2.1 (down_last HQM.out H4.out hC.out.2.2.2), (List.Perm.cons s hr.out.2.2.1).trans HUP.out, H9.out.2⟩
        · have H3 : Hid (leG b a) := Lib.hid (not_ahead h3)
          have HDD := Lib.hid (decide_eq_false h3)
          clear h3
          go_upto_region 9 with (go_at_call 95; refine (isAhead_any hr.out.1 m1 m0 a b HA.out HB.out).mono ?_; rw [HDD.out]; rintro e w7 ⟨rfl, b7⟩; have H7 : Hid (Hp w0 w7 hb (some ⟨g, 0, none⟩) c T2 ∧ Bes W w7) := Lib.hid ⟨hr.out.1.kept b7, hr.out.2.2.2.2.trans (Bes.of_below b7)⟩; clear b7)
          try rw [z1]
          clear z1
          have hC : Hid ((Hp w0 w7 hb (some ⟨g, 0, none⟩) c T2 ∧ Bes W w7) ∧ (0 < m0 ∧ (m0 - 1) / 2 = k ∧ m0 < n ∧ k < m0) ∧ T2[m0]? = some b ∧ ∀ i s', 0 < i → (i - 1) / 2 = k → T2[i]? = some s' → leG b s') := Lib.hid ⟨H7.out, ⟨PAR.out.1.1, PAR.out.1.2.1, H1.out, PAR.out.1.2.2⟩, HB.out, kids_two KID.out HB.out HA.out (leG_refl _) H3.out⟩
          have hqm := List.getElem?_eq_getElem (l := T2) (i := k) (by have := HL2.out; have := hC.out.2.1; omega)
          generalize T2[k]'(by have := HL2.out; have := hC.out.2.1; omega) = q at hqm
          have HQM := Lib.hid hqm
          clear hqm
          by_cases h4 : ordE (hdE b) (hdE q) < 0
          · have H4 := Lib.hid h4
            have HD9 := Lib.hid (decide_eq_true h4)
            clear h4
            go_wp2_with (first
              | (go_at_call 95; refine (isAhead_any hC.out.1.1 m0 k b q hC.out.2.2.1 HQM.out).mono ?_; rw [HD9.out]; rintro e w9 ⟨rfl, b7⟩; have H9 : Hid (Hp w0 w9 hb (some ⟨g, 0, none⟩) c T2 ∧ Bes W w9) := Lib.hid ⟨hC.out.1.1.kept b7, hC.out.1.2.trans (Bes.of_below b7)⟩; clear b7)
              | (go_at_call 97; refine (swap_any H9.out.1 m0 k (by have := HL2.out; have := hC.out.2.1; omega) (by have := HL2.out; have := hC.out.2.1; omega)).mono ?_; rintro e w8 ⟨rfl, h8, b8⟩; have H8 : Hid (Hp w0 w8 hb (some ⟨g, 0, none⟩) c (swapL T2 m0 k) ∧ Bes W w8) := Lib.hid ⟨h8, H9.out.2.trans b8⟩; clear h8 b8))
            go_roundw
            case rel => exact ⟨m0, swapL T2 m0 k, by go_num, Lib.hid ⟨H8.out.1, down_step leG_trans hr.out.2.1 hC.out.2.1.1 hC.out.2.1.2.1 hC.out.2.2.1 HQM.out (leG_of H4.out) hC.out.2.2.2, (swapL_perm (by have := HL2.out; have := hC.out.2.1; omega) (by have := HL2.out; have := hC.out.2.1; omega)).trans hr.out.2.2.1, by have := hC.out.2.1; omega, H8.out.2⟩⟩
            case measure => have := hC.out.2.1; simp [intOf]; omega
          · have H4 : Hid (leG q b) := Lib.hid (not_ahead h4)
            have HD9 := Lib.hid (decide_eq_false h4)
            clear h4
            go_wp2_with (go_at_call 95; refine (isAhead_any hC.out.1.1 m0 k b q hC.out.2.2.1 HQM.out).mono ?_; rw [HD9.out]; rintro e w9 ⟨rfl, b7⟩; have H9 : Hid (Hp w0 w9 hb (some ⟨g, 0, none⟩) c T2 ∧ Bes W w9) := Lib.hid ⟨hC.out.1.1.kept b7, hC.out.1.2.trans (Bes.of_below b7)⟩; clear b7)
            go_ret
            exact ⟨s, _, c, T2, by unfold Gl.val; rw [HSN.out]; try rfl, HS0.out, H9.out.1, down_done hr.out.2.1 (down_last HQM.out H4.out hC.out.2.2.2), (List.Perm.cons s hr.out.2.2.1).trans HUP.out, H9.out.2⟩
      · have y1 : decide ((m1 : Int) < n) = false := decide_eq_false (by omega)
        have y2 : decide (m1 < n) = false := decide_eq_false h2
        have H2 := Lib.hid h2
        clear h2
        go_upto_region 9 with fail
        try rw [z1]
        clear z1
        have hC : Hid ((Hp w0 w' hb (some ⟨g, 0, none⟩) c T2 ∧ Bes W w') ∧ (0 < m0 ∧ (m0 - 1) / 2 = k ∧ m0 < n ∧ k < m0) ∧ T2[m0]? = some b ∧ ∀ i s', 0 < i → (i - 1) / 2 = k → T2[i]? = some s' → leG b s') := Lib.hid ⟨⟨hr.out.1, hr.out.2.2.2.2⟩, ⟨PAR.out.1.1, PAR.out.1.2.1, H1.out, PAR.out.1.2.2⟩, HB.out, kids_one KID.out HB.out (by have := HL2.out; have := H2.out; omega)⟩
        have hqm := List.getElem?_eq_getElem (l := T2) (i := k) (by have := HL2.out; have := hC.out.2.1; omega)
        generalize T2[k]'(by have := HL2.out; have := hC.out.2.1; omega) = q at hqm
        have HQM := Lib.hid hqm
        clear hqm
        by_cases h4 : ordE (hdE b) (hdE q) < 0
        · have H4 := Lib.hid h4
          have HD9 := Lib.hid (decide_eq_true h4)
          clear h4
          go_wp2_with (first
            | (go_at_call 95; refine (isAhead_any hC.out.1.1 m0 k b q hC.out.2.2.1 HQM.out).mono ?_; rw [HD9.out]; rintro e w9 ⟨rfl, b7⟩; have H9 : Hid (Hp w0 w9 hb (some ⟨g, 0, none⟩) c T2 ∧ Bes W w9) := Lib.hid ⟨hC.out.1.1.kept b7, hC.out.1.2.trans (Bes.of_below b7)⟩; clear b7)
            | (go_at_call 97; refine (swap_any H9.out.1 m0 k (by have := HL2.out; have := hC.out.2.1; omega) (by have := HL2.out; have := hC.out.2.1; omega)).mono ?_; rintro e w8 ⟨rfl, h8, b8⟩; have H8 : Hid (Hp w0 w8 hb (some ⟨g, 0, none⟩) c (swapL T2 m0 k) ∧ Bes W w8) := Lib.hid ⟨h8, H9.out.2.trans b8⟩; clear h8 b8))
          go_roundw
          case rel => exact ⟨m0, swapL T2 m0 k, by go_num, Lib.hid ⟨H8.out.1, down_step leG_trans hr.out.2.1 hC.out.2.1.1 hC.out.2.1.2.1 hC.out.2.2.1 HQM.out (leG_of H4.out) hC.out.2.2.2, (swapL_perm (by have := HL2.out; have := hC.out.2.1; omega) (by have := HL2.out; have := hC.out.2.1; omega)).trans hr.out.2.2.1, by have := hC.out.2.1; omega, H8.out.2⟩⟩
          case measure => have := hC.out.2.1; simp [intOf]; omega
        · have H4 : Hid (leG q b) := Lib.hid (not_ahead h4)
          have HD9 := Lib.hid (decide_eq_false h4)
          clear h4
          go_wp2_with (go_at_call 95; refine (isAhead_any hC.out.1.1 m0 k b q hC.out.2.2.1 HQM.out).mono ?_; rw [HD9.out]; rintro e w9 ⟨rfl, b7⟩; have H9 : Hid (Hp w0 w9 hb (some ⟨g, 0, none⟩) c T2 ∧ Bes W w9) := Lib.hid ⟨hC.out.1.1.kept b7, hC.out.1.2.trans (Bes.of_below b7)⟩; clear b7)
          go_ret
          exact ⟨s, _, c, T2, by unfold Gl.val; rw [HSN.out]; try rfl, HS0.out, H9.out.1, down_done hr.out.2.1 (down_last HQM.out H4.out hC.out.2.2.2), (List.Perm.cons s hr.out.2.2.1).trans HUP.out, H9.out.2⟩
    · have z0 : decide ((m0 : Int) < n) = false := decide_eq_false (by omega)
      have z00 : decide (m0 < n) = false := decide_eq_false h1
      have H1 := Lib.hid h1
      clear h1 hm0
      go_wp2_with (go_at_call 98; refine (child_any k _ HK9.out).mono ?_; rw [HM0.out]; rintro e w' ⟨rfl, hw'⟩; subst hw')
      go_ret
      exact ⟨s, _, c, T2, by unfold Gl.val; rw [HSN.out]; try rfl, HS0.out, hr.out.1, down_done hr.out.2.1 (fun i s' p h0 hi hs _ => by
        have := (List.getElem?_eq_some_iff.1 hs).1
        have := HL2.out
        have := HM0.out
        have := H1.out
        omega), (List.Perm.cons s hr.out.2.2.1).trans HUP.out, hr.out.2.2.2.2⟩
end Go.Proofs.Ytcffpkflijpdjaa
namespace Go.Proofs.Ytcffpkflijpdjaa
/-- No two at one place. -/
def Apt (F : List Er) : Prop := F.Pairwise (fun x y => ordE x y ≠ 0)
theorem apt_perm {F G : List Er} (h : F.Perm G) : Apt F ↔ Apt G := List.Perm.pairwise_iff (fun {x y} e => by have := ordE_flip x y; omega) h
theorem ordL_apt {L : List Er} (h : OrdL L) : Apt L := (OrdL.pw.1 h).2.imp (fun h => by omega)
structure InvM (F M : List Er) (T : List (List Er)) : Prop where
  perm : (M ++ T.flatten).Perm F
  ords : ∀ l ∈ T, OrdL l
  strict : OrdL M
  le : ∀ x ∈ M, ∀ l ∈ T, ∀ y ∈ l, leE x y
theorem InvM.turn {F M : List Er} {T U : List (List Er)} (h : InvM F M T) (hp : U.Perm T) : InvM F M U :=
  ⟨((List.Perm.append_left M hp.flatten)).trans h.perm, fun l hl => h.ords l (hp.mem_iff.1 hl), h.strict, fun x hx l hl => h.le x hx l (hp.mem_iff.1 hl)⟩
theorem InvM.none {F M : List Er} {T : List (List Er)} (h : InvM F M ([] :: T)) : InvM F M T :=
  ⟨by have := h.perm; rwa [List.flatten_cons, List.nil_append] at this, fun l hl => h.ords l (List.mem_cons_of_mem _ hl), h.strict, fun x hx l hl => h.le x hx l (List.mem_cons_of_mem _ hl)⟩
theorem ordL_head {x y : Er} {r : List Er} (h : OrdL (x :: r)) (hy : y ∈ x :: r) : leE x y := by
  rcases List.mem_cons.1 hy with e | e
  · rw [e]; exact leE_refl _
  · have := (List.pairwise_cons.1 (OrdL.pw.1 h).2).1 y e
    unfold leE
    omega
theorem InvM.step {F M : List Er} {x : Er} {r : List Er} {T : List (List Er)} (h : InvM F M ((x :: r) :: T)) (hmin : ∀ l ∈ T, ∀ y, l.head? = some y → leE x y) (hlast : ∀ e, M.getLast? = some e → ordE e x ≠ 0) : InvM F (M ++ [x]) (r :: T) := by
  have ho := h.ords _ (List.mem_cons_self ..)
  refine ⟨?_, fun l hl => ?_, ?_, fun z hz l hl y hy => ?_⟩
  · have := h.perm
    simpa [List.append_assoc] using this
  · rcases List.mem_cons.1 hl with e | e
    · rw [e]; exact OrdL.tail ho
    · exact h.ords l (List.mem_cons_of_mem _ e)
  · refine h.strict.snoc (ho.good x (List.mem_cons_self ..)) (fun e he => ?_)
    have h1 := h.le e (List.mem_of_getLast? he) _ (List.mem_cons_self ..) x (List.mem_cons_self ..)
    have h2 := hlast e he
    unfold leE at h1
    omega
  · have hxy : leE x y := by
      rcases List.mem_cons.1 hl with e | e
      · subst e
        exact ordL_head ho (List.mem_cons_of_mem _ hy)
      · have ho2 := h.ords l (List.mem_cons_of_mem _ e)
        cases l with
        | nil => cases hy
        | cons q l => exact leE_trans _ _ _ (hmin _ e q rfl) (ordL_head ho2 hy)
    rcases List.mem_append.1 hz with e | e
    · exact leE_trans _ _ _ (h.le z e _ (List.mem_cons_self ..) x (List.mem_cons_self ..)) hxy
    · rw [List.mem_singleton.1 e]; exact hxy
theorem InvM.dup {F M : List Er} {x e : Er} {r : List Er} {T : List (List Er)} (h : InvM F M ((x :: r) :: T)) (he : M.getLast? = some e) (h0 : ordE e x = 0) : ¬ Apt F := fun ha => by
  have h1 := (apt_perm h.perm).2 ha
  obtain ⟨-, -, h2⟩ := List.pairwise_append.1 h1
  exact h2 e (List.mem_of_getLast? he) x (by simp) h0
theorem InvM.done {F M : List Er} (h : InvM F M []) : OrdL M ∧ M.Perm F := ⟨h.strict, by simpa using h.perm⟩
/-- Two lists in order, of the same entries, are one. -/
theorem sorted_one : ∀ {L M : List Er}, List.Pairwise (fun x y => ordE x y < 0) L → List.Pairwise leE M → L.Perm M → L = M
  | [], M, _, _, h => by simpa using h.symm.eq_nil.symm
  | x :: L, [], _, _, h => by simp at h
  | x :: L, y :: M, h1, h2, h => by
    obtain ⟨h3, h4⟩ := List.pairwise_cons.1 h1
    obtain ⟨h5, h6⟩ := List.pairwise_cons.1 h2
    have hxy : x = y := by
      have hx : x ∈ y :: M := h.mem_iff.1 (List.mem_cons_self ..)
      have hy : y ∈ x :: L := h.mem_iff.2 (List.mem_cons_self ..)
      rcases List.mem_cons.1 hy with e | e
      · exact e.symm
      · rcases List.mem_cons.1 hx with e' | e'
        · exact e'
        · have a1 := h3 y e
          have a2 := h5 x e'
          unfold leE at a2
          have := ordE_flip x y
          omega
    subst hxy
    rw [sorted_one h4 h6 (List.Perm.cons_inv h)]
end Go.Proofs.Ytcffpkflijpdjaa
