/-
  Walks: a block unpacked, as the program does. Walks: a frame, read, by the program. Walks: a table's head and index, read. Walks: a table's index, read.
-/
import Derived.Deep.RegionWith
import Derived.Test.YtmgggddnfeojmaaGreatJO08
import Derived.Test.YtmgggddnfeojmaaGreatJO10
set_option linter.unusedSimpArgs false
set_option linter.unusedVariables false
namespace Go.Proofs.YtmgggddnfeojmaaGreat
open Go.RowKit
set_option maxRecDepth 100000 in
set_option maxHeartbeats 16000000 in
theorem unpack_any (A : Option Addr) (L : List Int) (n c : Nat) (w : World) (h : In w A L n c) (hl : n ≤ 2097152) :
    Calls Tryz.prog 93 #[.slice A n c] w (UnE w (unpackE L)) := by
  have HY := Lib.hid h.byt
  have HN := Lib.hid h.len
  have HL := Lib.hid hl
  have HI : Hid (∀ W, Below w.heap.size w W → In W A L n c) := Lib.hid (fun W hb => h.kept hb)
  have e9 : bytesP L 0 (n : Int) = bytesP L 0 L.length := by rw [h.len]
  have HV := Lib.hid (vbytes_any A L n c 0 n w h (by omega) (by omega))
  rw [e9] at HV
  obtain ⟨R, hR⟩ : ∃ R, unpackE L = R := ⟨_, rfl⟩
  rw [hR]
  have e1 : (bytesP L 0 L.length).2.2 ≠ 0 → R = none := fun h => by rw [← hR]; unfold unpackE; rw [if_pos h]
  have e2 : (bytesP L 0 L.length).2.2 = 0 → (readP (bytesP L 0 L.length).1).2 ≠ 0 → R = none := fun h g => by rw [← hR]; unfold unpackE; rw [if_neg (by simpa using h), if_pos g]
  have e3 : (bytesP L 0 L.length).2.2 = 0 → (readP (bytesP L 0 L.length).1).2 = 0 → R = unpF L (readP (bytesP L 0 L.length).1).1 (bytesP L 0 L.length).2.1 [] ∧ 0 ≤ (bytesP L 0 L.length).2.1 ∧ (bytesP L 0 L.length).2.1 ≤ L.length := fun h g => ⟨by rw [← hR]; unfold unpackE; rw [if_neg (by simpa using h), if_neg (by simpa using g)], bytesP_end HY.out h⟩
  have e4 := bytesP_byt (a := 0) (most := L.length) HY.out
  have e5 := bytesP_len (L := L) (a := 0) (most := L.length)
  generalize bytesP L 0 L.length = q at HV e1 e2 e3 e4 e5
  obtain ⟨K, a0, er⟩ := q
  unfold GotV at HV
  simp only at HV e1 e2 e3 e4 e5
  have ep : (readP K).2 = 0 → LeftB K (readP K).1 K.length := fun g => readP_form e4 (Prod.ext rfl g)
  have HRD : Hid (∀ A c W, In W A K K.length c → Calls Tryz.prog 108 #[.slice A K.length c] W (GotM W (readP K))) := Lib.hid (fun A c W hi => read_any A K _ c W hi (by have := HN.out; have := HL.out; omega))
  unfold GotM at HRD
  generalize readP K = p at HRD e2 e3 ep
  obtain ⟨ps, er2⟩ := p
  simp only at HRD e2 e3 ep
  have E1 := Lib.hid e1
  have E2 := Lib.hid e2
  have E3 := Lib.hid e3
  have E4 := Lib.hid e4
  have EP := Lib.hid ep
  clear e1 e2 e3 e4 ep hR h hl e9
  by_cases h0 : er = 0
  · have h0' : (er != 0) = false := by simpa using h0
    by_cases h2 : er2 = 0
    · have h2' : (er2 != 0) = false := by simpa using h2
      obtain ⟨r1, r2, r3⟩ := E3.out h0 h2
      have HLB := Lib.hid (EP.out h2)
      have HR1 := Lib.hid r1
      clear r1 h2
      go_enter Tryz.func93, Tryz.ntmps93
      go_upto_region 9 with (first
        | (go_at_call 92; refine HV.out.mono ?_; rintro e w1 ⟨A1, c1, rfl, m1, b1⟩; have B1 := Lib.hid b1; have I1 : Hid (In w1 A1 K K.length c1) := Lib.hid (gotV_in m1 E4.out); clear m1 b1)
        | (go_at_call 108; refine (HRD.out _ _ _ I1.out).mono ?_; rintro e w2 ⟨PS, A2, c2, p1, rfl, p2, p3, b2⟩; have B2 := Lib.hid (below_then B1.out b2); have P1 := Lib.hid p1; have P2 := Lib.hid (p2.mono B1.out.size); have P3 := Lib.hid p3.lies; clear p1 p2 p3 b2))
      clear E1 E2 E3 EP HRD HV B1 I1
      have LP : Hid (∀ W, Below w2.heap.size w2 W → Lies W A2 (pvals PS)) := Lib.hid (fun W hb => P3.out.kept hb)
      have IP : Hid (∀ q ∈ PS, ∀ W, Below w2.heap.size w2 W → (Row W w.heap.size q.k.a q.k.c q.k.l ∧ Byt q.k.l) ∧ In W q.v.a q.v.l q.v.l.length q.v.c) := Lib.hid (fun q hq W hb => by
        have h1 := P2.out q hq
        have h2 := HLB.out.byt q.rd (P1.out ▸ List.mem_map_of_mem hq)
        exact ⟨⟨h1.1.kept hb (Nat.le_refl _), h2.1⟩, (h1.2.kept hb (Nat.le_refl _)).in_ h2.2⟩)
      have IL : Hid (∀ W, Below w2.heap.size w2 W → In W A L n c) := Lib.hid (fun W hb => HI.out W (B2.out.trans (hb.mono B2.out.size)))
      obtain ⟨pn, hpn⟩ : ∃ t, PS.length = t := ⟨_, rfl⟩
      rw [hpn]
      have HPN := Lib.hid hpn
      have HPN9 : Hid ((pn : Int) ≤ 4096) := Lib.hid (by have := HLB.out.short.1; rw [← P1.out, rds_len] at this; omega)
      clear hpn P2 P3 HI
      go_loopw [5, 8, 36] (fun t5 t8 t36 wr => ∃ (k : Nat) (a : Int) (T : List En) (A8 : Option Addr) (c8 : Nat), k ≤ pn ∧ t36 = .int .i64 k ∧ t5 = .int .i64 a ∧ t8 = .slice A8 T.length c8 ∧ Hid (R = unpF L (ps.drop k) a (ers T)) ∧ Hid (UpS L a T) ∧ Hid (EMades wr w.heap.size T) ∧ Hid (Erow wr w2.heap.size A8 c8 T) ∧ Hid (Below w2.heap.size w2 wr)) (fun _ _ t36 _ => pn - (intOf t36).toNat)
      case atStart => exact ⟨0, a0, [], none, 0, by omega, rfl, rfl, rfl, HR1, Lib.hid ⟨r2, r3, by simpa using r2, (fun p hp => by cases hp), (fun q hq => by cases hq)⟩, Lib.hid (EMades.nil _ _), Lib.hid (Erow.nil _ _), Lib.hid (Below.refl _ _)⟩
      case round =>
        obtain ⟨k, a, T, A8, c8, hk, rfl, rfl, rfl, HRR, HUP, HEM, HER, HBB⟩ := hrel
        clear r2 r3
        have hpn9 := HPN9.out
        by_cases hlt : k < pn
        · have hq := List.getElem?_eq_getElem (l := PS) (i := k) (by have := HPN.out; omega)
          generalize PS[k]'(by have := HPN.out; omega) = x at hq
          obtain ⟨ad, rfl, a1, a2⟩ := lies_pair (LP.out _ HBB.out) hq
          have HX := Lib.hid (IP.out x (List.mem_of_getElem? hq))
          have HPS : Hid (ps.drop k = x.rd :: ps.drop (k + 1)) := Lib.hid (by
            have e := rds_get hq
            rw [P1.out] at e
            obtain ⟨hi, e1⟩ := List.getElem?_eq_some_iff.1 e
            rw [List.drop_eq_getElem_cons hi, e1])
          have HU := Lib.hid (fun W hb => uint_any x.v.a x.v.l x.v.l.length x.v.c 0 W (HX.out W hb).2)
          unfold Ans at HU
          obtain ⟨u0, u1, -, -, -, -⟩ := uintP_bd x.v.l 0 (HX.out _ HBB.out).2.byt
          have b1 : ((uintP x.v.l 0).2.2 ≠ 0 ∨ (uintP x.v.l 0).2.1 < x.v.l.length ∨ (uintP x.v.l 0).1 = 0) → R = none := fun h => by rw [HRR.out, HPS.out]; exact unpF_bad h
          have b2 : ¬ ((uintP x.v.l 0).2.2 ≠ 0 ∨ (uintP x.v.l 0).2.1 < x.v.l.length ∨ (uintP x.v.l 0).1 = 0) → R = restV L (ps.drop (k + 1)) x.k.l (uintP x.v.l 0).1.toNat a (ers T) := fun h => by rw [HRR.out, HPS.out]; exact unpF_ok h
          generalize uintP x.v.l 0 = q at HU u0 u1 b1 b2
          obtain ⟨num, nx, er3⟩ := q
          simp only at HU u0 u1 b1 b2
          obtain ⟨⟨ka, kc, kl⟩, ⟨va, vc, vl⟩⟩ := x
          simp only at a1 a2 HX HU b1 b2
          obtain ⟨kn, hkn⟩ : ∃ t, kl.length = t := ⟨_, rfl⟩
          obtain ⟨vn, hvn⟩ : ∃ t, vl.length = t := ⟨_, rfl⟩
          rw [hkn] at a1
          rw [hvn] at a2 HU b1 b2
          have HKN := Lib.hid hkn
          obtain ⟨tn, htn⟩ : ∃ t, T.length = t := ⟨_, rfl⟩
          rw [htn]
          have HTN := Lib.hid htn
          have j0 : (k : Int) < pn := by omega
          have HB1 := Lib.hid b1
          have HB2 := Lib.hid b2
          clear b1 b2 hq hkn hvn htn HRR HPS
          have HUW := Lib.hid (fun W (hb : Below w2.heap.size w2 W) o => HU.out (W.alloc o) (hb.alloc hb.size o))
          clear HU
          by_cases g1 : er3 = 0
          · have g1' : (er3 != 0) = false := by simpa using g1
            by_cases g2 : nx < (vn : Int)
            · have g2' : decide (nx < (vn : Int)) = true := by simpa using g2
              have HE := Lib.hid (HB1.out (.inr (.inl g2)))
              clear HB1 HB2
              go_wp2_with (go_at_call 91; refine (HUW.out _ HBB.out _).mono ?_; rintro e w4 ⟨rfl, rfl⟩)
              go_ret2
              exact unE_none HE.out ((B2.out.trans (HBB.out.mono B2.out.size)).alloc (Nat.le_trans B2.out.size HBB.out.size) _)
            · have g2' : decide (nx < (vn : Int)) = false := by simpa using g2
              by_cases g3 : num = 0
              · have HE := Lib.hid (HB1.out (.inr (.inr g3)))
                have g3' : (num == 0) = true := by simpa using g3
                clear HB1 HB2
                go_wp2_with (go_at_call 91; refine (HUW.out _ HBB.out _).mono ?_; rintro e w4 ⟨rfl, rfl⟩)
                go_ret2
                exact unE_none HE.out ((B2.out.trans (HBB.out.mono B2.out.size)).alloc (Nat.le_trans B2.out.size HBB.out.size) _)
              · have g3' : (num == 0) = false := by simpa using g3
                have HR2 := Lib.hid (HB2.out (by simp only [not_or]; exact ⟨by simpa using g1, g2, g3⟩))
                clear HB1 HB2
                obtain ⟨N, rfl⟩ := Int.eq_ofNat_of_zero_le u0
                rw [Int.toNat_natCast] at HR2
                obtain ⟨bx, hbx⟩ : ∃ b, wr.heap.size = b := ⟨_, rfl⟩
                go_upto_region 15 with (go_at_call 91; refine (HUW.out _ HBB.out _).mono ?_; rintro e w4 ⟨rfl, rfl⟩)
                obtain ⟨wb, hwb⟩ : ∃ wb, wr.alloc (.cells #[.slice ka kn kc, .slice va vn vc] 144) = wb := ⟨_, rfl⟩
                have HBX : Hid (wb.heap[bx]? = some (.cells #[.slice ka kn kc, .slice va vn vc] 144 (0, 0))) := Lib.hid (by rw [← hwb, ← hbx]; exact heap_alloc_new wr _)
                have bb := below_new wr (.cells #[.slice ka kn kc, .slice va vn vc] 144)
                rw [hwb] at bb
                have BBb := Lib.hid (HBB.out.trans (bb.mono HBB.out.size))
                have EMb := Lib.hid (HEM.out.kept bb (Nat.le_refl _))
                have ERb := Lib.hid (HER.out.kept bb (Nat.le_refl _))
                rw [hwb]
                have HNB : Hid (w2.heap.size ≤ bx) := Lib.hid (hbx ▸ HBB.out.size)
                clear bb hwb hbx HUW HBB HEM HER g2 g3 g1' g2' g3'
                go_loopw [5, 8, 61] (fun t5 t8 t61 w6 => ∃ (j : Nat) (a : Int) (T : List En) (A8 : Option Addr) (c8 : Nat), j ≤ N ∧ t61 = .int .u64 j ∧ t5 = .int .i64 a ∧ t8 = .slice A8 T.length c8 ∧ Hid (R = restV L (ps.drop (k + 1)) kl (N - j) a (ers T)) ∧ Hid (UpS L a T) ∧ Hid (EMades w6 w.heap.size T) ∧ Hid (Erow w6 w2.heap.size A8 c8 T) ∧ Hid (Below w2.heap.size w2 w6) ∧ Hid (w6.heap[bx]? = some (.cells #[.slice ka kn kc, .slice va vn vc] 144 (0, 0)))) (fun _ _ t61 _ => N - (intOf t61).toNat)
                case atStart => exact ⟨0, a, T, A8, c8, by omega, rfl, rfl, by rw [HTN.out], HR2, HUP, EMb, ERb, BBb, HBX⟩
                case round =>
                  clear HBX BBb EMb ERb HUP HR2 HTN
                  obtain ⟨j, a, T, A8, c8, hj, rfl, rfl, rfl, HR3, HU3, EM3, ER3, BB3, HB3⟩ := hrel
                  by_cases hlt2 : j < N
                  · have HVR := Lib.hid (versionAt_any A L n c a wr (IL.out _ BB3.out) (by have := HL.out; omega))
                    have f1 : (verP L a).2.2 ≠ 0 → R = none := fun h => by
                      rw [HR3.out, show N - j = (N - (j + 1)) + 1 by omega]
                      exact restV_bad h
                    have f2 : (verP L a).2.2 = 0 → R = restV L (ps.drop (k + 1)) kl (N - (j + 1)) (verP L a).2.1 (ers T ++ [(kl, (verP L a).1)]) ∧ (∀ q : En, q.rd = (kl, (verP L a).1) → q.k.l = kl → UpS L (verP L a).2.1 (T ++ [q])) := fun h => by
                      refine ⟨?_, fun q hq hk => ?_⟩
                      · rw [HR3.out, show N - j = (N - (j + 1)) + 1 by omega]
                        exact restV_ok h
                      · subst hk
                        exact HU3.out.step HY.out (HX.out _ BB3.out).1.2 h hq
                    have HTF : Hid (T.length ≤ n) := Lib.hid (by have := HU3.out.few; have := HU3.out.hi; have := HN.out; omega)
                    generalize verP L a = p at HVR f1 f2
                    obtain ⟨⟨s, d, v⟩, i, e⟩ := p
                    unfold GotE at HVR
                    simp only at HVR f1 f2
                    have F1 := Lib.hid f1
                    have F2 := Lib.hid f2
                    clear f1 f2 HR3
                    obtain ⟨tn2, htn2⟩ : ∃ t, T.length = t := ⟨_, rfl⟩
                    rw [htn2]
                    have HTN2 := Lib.hid htn2
                    clear htn2
                    have j1 : (j : Int) < N := by omega
                    by_cases g4 : e = 0
                    · have g4' : (e != 0) = false := by simpa using g4
                      obtain ⟨f3, f4⟩ := F2.out g4
                      have F3 := Lib.hid f3
                      have F4 := Lib.hid f4
                      clear f3 f4 F1 F2
                      go_upto_region 19 with (go_at_call 109; refine HVR.out.mono ?_; rintro e w5 ⟨A5, c5, rfl, m5, b5⟩; have R5 := Lib.hid (gotV_row m5); have B5 := Lib.hid b5; clear m5 b5)
                      obtain ⟨ex, hex⟩ : ∃ e, w5.heap.size = e := ⟨_, rfl⟩
                      obtain ⟨w6, hw6⟩ : ∃ w6, w5.alloc (.cells #[.slice none 0 0, .int .i64 s, .bool d, .slice A5 v.length c5] 48) = w6 := ⟨_, rfl⟩
                      have H6 : Hid (w6.heap[ex]? = some (.cells #[.slice none 0 0, .int .i64 s, .bool d, .slice A5 v.length c5] 48 (0, 0))) := Lib.hid (by rw [← hw6, ← hex]; exact heap_alloc_new w5 _)
                      have B6 : Hid (Below w5.heap.size w5 w6) := Lib.hid (by rw [← hw6]; exact below_new w5 _)
                      have HB6 := Lib.hid (block_kept (block_kept HB3.out B5.out (Nat.le_refl _)) B6.out (Nat.le_refl _))
                      rw [hw6, hex]
                      have HEX := Lib.hid hex
                      clear hw6 hex
                      have y0 : w6.cell? ⟨ex, 0, none⟩ = some (.slice none 0 0) := by have h := H6.out; simp [World.cell?, h]
                      have f0 : w6.frozen? ⟨ex, 0, none⟩ = false := by have h := H6.out; simp [World.frozen?, h]
                      have z0 : w6.cell? ⟨bx, 0, none⟩ = some (.slice ka kn kc) := by have h := HB6.out; simp [World.cell?, h]
                      go_upto_region 20 with fail
                      have H7 := Lib.hid (heap_setCell_same w6 ex 0 _ _ (.slice ka kn kc) H6.out)
                      have B7 : Hid (Below w5.heap.size w5 (w6.setCell ⟨ex, 0, none⟩ (.slice ka kn kc))) := Lib.hid (((Kp.of_below B6.out).set ex 0 (.slice ka kn kc) (by have := HEX.out; omega)).below (fun _ h => h))
                      clear y0 f0 z0 H6 B6 HB6
                      generalize w6.setCell ⟨ex, 0, none⟩ (.slice ka kn kc) = w7 at H7 B7 ⊢
                      have H8 : Hid (w7.heap[ex]? = some (.cells #[.slice ka kn kc, .int .i64 s, .bool d, .slice A5 v.length c5] 48 (0, 0))) := Lib.hid H7.out
                      obtain ⟨x0, x1, x2, x3⟩ : w7.cell? ⟨ex, 0, none⟩ = some (.slice ka kn kc) ∧ w7.cell? ⟨ex, 1, none⟩ = some (.int .i64 s) ∧ w7.cell? ⟨ex, 2, none⟩ = some (.bool d) ∧ w7.cell? ⟨ex, 3, none⟩ = some (.slice A5 v.length c5) := by
                        have h := H8.out
                        refine ⟨?_, ?_, ?_, ?_⟩ <;> simp [World.cell?, h]
                      have B37 : Hid (Below wr.heap.size wr w7) := Lib.hid (below_then B5.out B7.out)
                      have BB7 := Lib.hid (BB3.out.trans (B37.out.mono BB3.out.size))
                      have ER7 := Lib.hid (ER3.out.kept B37.out (Nat.le_refl _))
                      have EM7 := Lib.hid (EM3.out.kept B37.out (Nat.le_refl _))
                      have HB7 := Lib.hid (block_kept HB3.out B37.out (Nat.le_refl _))
                      have KR7 := Lib.hid (HX.out _ BB7.out).1.1
                      have VR7 := Lib.hid ((R5.out.kept B7.out (Nat.le_refl _)).mono (Nat.le_trans B2.out.size BB3.out.size))
                      clear H7 H8 B7 B37 ER3 EM3 HB3 R5 B5
                      go_wp2_with (at_builtin; refine wpList_append_erow _ rfl (.tmp 75) (.tmp 77) rfl w2.heap.size A8 c8 T [⟨⟨ka, kc, kl⟩, s, d, ⟨A5, c5, v⟩⟩] _ tn2 1 1 rfl rfl HTN2.out rfl (ER7.out.alloc _) (lit_entry _ ka A5 kc c5 kl v s d kn _ HKN.out rfl) (by have := BB7.out.size; simp; omega) (by have := HTF.out; have := HL.out; simp only [List.length_singleton]; omega) ?_; intro A9 c9 w9 r9 b9 g9; have R9 := Lib.hid r9; have B9 := Lib.hid ((BB7.out.alloc BB7.out.size _).trans b9); have X9 := Lib.hid (up_more (q := ⟨⟨ka, kc, kl⟩, s, d, ⟨A5, c5, v⟩⟩) g9 HTN2.out (ER7.out.alloc _) (EM7.out.kept (below_new _ _) (Nat.le_refl _)) (KR7.out.alloc _) (VR7.out.alloc _) (block_alloc HB7.out _) (by decide)); clear r9 b9 g9)
                      go_roundw
                      case rel => exact ⟨j + 1, i, T ++ [⟨⟨ka, kc, kl⟩, s, d, ⟨A5, c5, v⟩⟩], A9, c9, by omega, by go_num, rfl, by rw [List.length_append, HTN2.out]; rfl, Lib.hid (by rw [F3.out, ers_append]; rfl), Lib.hid (F4.out ⟨⟨ka, kc, kl⟩, s, d, ⟨A5, c5, v⟩⟩ rfl rfl), Lib.hid X9.out.1, R9, B9, Lib.hid X9.out.2⟩
                      case measure => simp [intOf]; omega
                    · have g4' : (e != 0) = true := by simpa using g4
                      have HE := Lib.hid (F1.out g4)
                      clear F1 F2 g4
                      go_wp2_with (go_at_call 109; refine HVR.out.mono ?_; rintro e w5 ⟨A5, c5, rfl, m5, b5⟩; have B5 := Lib.hid b5; clear m5 b5)
                      go_ret2
                      exact unE_none HE.out ((B2.out.trans ((BB3.out.trans (B5.out.mono BB3.out.size)).mono B2.out.size)).alloc (Nat.le_trans B2.out.size (Nat.le_trans BB3.out.size B5.out.size)) _)
                  · obtain rfl : j = N := by omega
                    have j1 : ¬ (j : Int) < j := by omega
                    go_wp2_with fail
                    go_roundw
                    case rel => exact ⟨k + 1, a, T, A8, c8, by omega, by go_num, rfl, rfl, Lib.hid (by rw [HR3.out, Nat.sub_self]; exact restV_zero _ _ _ _ _), HU3, EM3, ER3, BB3⟩
                    case measure => simp [intOf]; omega
          · have g1' : (er3 != 0) = true := by simpa using g1
            have HE := Lib.hid (HB1.out (.inl g1))
            clear HB1 HB2 g1
            go_wp2_with (go_at_call 91; refine (HUW.out _ HBB.out _).mono ?_; rintro e w4 ⟨rfl, rfl⟩)
            go_ret2
            exact unE_none HE.out ((B2.out.trans (HBB.out.mono B2.out.size)).alloc (Nat.le_trans B2.out.size HBB.out.size) _)
        · obtain rfl : k = pn := by omega
          have j0 : ¬ (k : Int) < k := by omega
          have HRF : Hid (R = if a = L.length ∧ OrdL (ers T) then some (ers T) else none) := Lib.hid (by
            rw [HRR.out, List.drop_of_length_le (by rw [← P1.out, rds_len]; have := HPN.out; omega)]
            rfl)
          have HTF : Hid (T.length ≤ n) := Lib.hid (by have := HUP.out.few; have := HUP.out.hi; have := HN.out; omega)
          have HMS := Lib.hid (mayStand_any A8 T T.length c8 wr rfl HER.out.lies (HEM.out.ins HUP.out.byt) HUP.out.fit (by have := HTF.out; have := HL.out; omega))
          have HBW : Hid (Below w.heap.size w wr) := Lib.hid (B2.out.trans (HBB.out.mono B2.out.size))
          obtain ⟨b, hb⟩ : ∃ b, decide (OrdL (ers T)) = b := ⟨_, rfl⟩
          rw [hb] at HMS
          have HBO := Lib.hid hb
          obtain ⟨tn, htn⟩ : ∃ t, T.length = t := ⟨_, rfl⟩
          rw [htn] at HMS ⊢
          have HTN := Lib.hid htn
          clear hb htn
          by_cases g9 : a = n
          · have g9' : (a == (n : Int)) = true := by simpa using g9
            have HRG : Hid (R = if b = true then some (ers T) else none) := Lib.hid (by
              rw [HRF.out, ← HBO.out]
              have e : (a = (L.length : Int) ∧ OrdL (ers T)) ↔ decide (OrdL (ers T)) = true := by rw [decide_eq_true_iff]; exact ⟨fun h => h.2, fun h => ⟨by rw [g9, HN.out], h⟩⟩
              simp only [e])
            clear g9
            go_wp2_with (go_at_call 33; refine HMS.out.mono ?_; rintro e w9 ⟨rfl, b9⟩; have B9 := Lib.hid b9; clear b9)
            go_ret2
            have B10 := HBW.out.trans (B9.out.mono HBW.out.size)
            cases b
            · exact unE_none (by rw [HRG.out]; rfl) B10
            · have e : R = some (ers T) := by rw [HRG.out]; rfl
              rw [e]
              exact ⟨B10, T, A8, c8, rfl, by rw [HTN.out]; rfl, HEM.out.kept B9.out (Nat.le_refl _), (HER.out.kept B9.out (Nat.le_refl _)).mono B2.out.size, HUP.out.byt, HUP.out.fit⟩
          · have g9' : (a == (n : Int)) = false := by simpa using g9
            have HE : Hid (R = none) := Lib.hid (by rw [HRF.out, if_neg (fun h => g9 (by rw [h.1, HN.out]))])
            clear g9
            go_wp2_with fail
            go_ret2
            exact unE_none HE.out HBW.out
    · have h2' : (er2 != 0) = true := by simpa using h2
      go_enter Tryz.func93, Tryz.ntmps93
      go_wp2_with (first
        | (go_at_call 92; refine HV.out.mono ?_; rintro e w1 ⟨A1, c1, rfl, m1, b1⟩; have B1 := Lib.hid b1; have I1 : Hid (In w1 A1 K K.length c1) := Lib.hid (by exact gotV_in m1 E4.out); clear m1 b1)
        | (go_at_call 108; refine (HRD.out _ _ _ I1.out).mono ?_; rintro e w2 ⟨PS, A2, c2, p1, rfl, p2, p3, b2⟩; have B2 := Lib.hid (below_then B1.out b2); clear p1 p2 p3 b2))
      go_ret2
      exact unE_none (E2.out h0 h2) B2.out
  · have h0' : (er != 0) = true := by simpa using h0
    go_enter Tryz.func93, Tryz.ntmps93
    go_wp2_with (go_at_call 92; refine HV.out.mono ?_; rintro e w1 ⟨A1, c1, rfl, m1, b1⟩; have B1 := Lib.hid b1; clear m1 b1)
    go_ret2
    exact unE_none (E1.out h0) B1.out
end Go.Proofs.YtmgggddnfeojmaaGreat
namespace Go.Proofs.YtmgggddnfeojmaaGreat
open Go.RowKit
/-- What Read answers: the payload, the place behind, the error. -/
def Got (w : World) (p : List Int × Int × Int) (e : Ending) (w' : World) : Prop :=
  ∃ A c, e = .returned (.tuple #[.slice A p.1.length c, .int .i64 p.2.1, .int .i64 p.2.2]) ∧ Row w' w.heap.size A c p.1 ∧ Below w.heap.size w w'
theorem got_none (w : World) (p : List Int × Int × Int) (n : Int) (h : p = ([], 0, n)) (w' : World) (hb : Below w.heap.size w w') : Got w p (.returned (.tuple #[.slice none 0 0, .int .i64 0, .int .i64 n])) w' := by
  subst h
  exact ⟨none, 0, rfl, Row.nil _ _, hb⟩
/-- Of bytes from a place on. -/
theorem readP_out {L : List Int} {at_ : Int} (h : at_ < 0 ∨ (L.length : Int) < at_) : fReadP L at_ = ([], 0, 2) := by unfold fReadP; rw [if_pos h]
theorem readP_bad {L : List Int} {a : Nat} {e : Int} (h : a ≤ L.length) (hr : readL (L.drop a) = ([], 0, e)) (he : e ≠ 0) : fReadP L a = ([], 0, e) := by
  unfold fReadP
  rw [if_neg (by omega), Int.toNat_natCast, hr, if_neg he]
theorem readP_ok {L p : List Int} {a m : Nat} (h : a ≤ L.length) (hr : readL (L.drop a) = (p, m, 0)) : fReadP L a = (p, (a : Int) + m, 0) := by
  unfold fReadP
  rw [if_neg (by omega), Int.toNat_natCast, hr, if_pos rfl]
theorem readL_great {R : List Int} (h8 : ¬ R.length < 8) (h : 2097152 < numL R) : readL R = ([], 0, 11) := by
  unfold readL
  rw [if_neg (fun e => by subst e; simp at h8), if_neg h8, if_pos h]
theorem readL_torn {R : List Int} {m : Nat} (h8 : ¬ R.length < 8) (hm : numL R = m) (h : ¬ 2097152 < m) (h' : R.length < 8 + m) : readL R = ([], 0, 10) := by
  unfold readL
  rw [if_neg (fun e => by subst e; simp at h8), if_neg h8, if_neg (by omega), if_pos (by omega)]
theorem readL_sum {R : List Int} {m : Nat} (h8 : ¬ R.length < 8) (hm : numL R = m) (h : ¬ 2097152 < m) (h' : 8 + m ≤ R.length) (hs : numL (R.drop 4) ≠ (sumL (R.take 4 ++ (R.drop 8).take m) : Nat)) : readL R = ([], 0, 11) := by
  have e : (numL R).toNat = m := by omega
  unfold readL
  rw [if_neg (fun e => by subst e; simp at h8), if_neg h8, if_neg (by omega), if_neg (by omega), e, if_pos hs]
theorem readL_good {R : List Int} {m : Nat} (h8 : ¬ R.length < 8) (hm : numL R = m) (h : ¬ 2097152 < m) (h' : 8 + m ≤ R.length) (hs : numL (R.drop 4) = (sumL (R.take 4 ++ (R.drop 8).take m) : Nat)) : readL R = ((R.drop 8).take m, 8 + m, 0) := by
  have e : (numL R).toNat = m := by omega
  unfold readL
  rw [if_neg (fun e => by subst e; simp at h8), if_neg h8, if_neg (by omega), if_neg (by omega), e, if_neg (fun k => k hs)]
theorem in_low {w : World} {A : Option Addr} {L : List Int} {a k c : Nat} (h : In w A L (a + k) c) : ∃ A', (∀ W, (Instr.slice 42 (.slice A (a + k) c) (some (.int .i64 (a : Int))) none none).run Tryz.prog W = .ok (.slice A' k (c - a)) W) ∧ In w A' (L.drop a) k (c - a) := by
  obtain ⟨A', h1, h2⟩ := slice_low h.bys a k c h.len h.cap
  exact ⟨A', h1, by rw [List.length_drop, h.len]; omega, by have := h.cap; omega, by have := h.top; omega, h2, h.byt.drop a⟩
theorem in_high {w : World} {A : Option Addr} {L : List Int} {n k c : Nat} (h : In w A L n c) (hk : k ≤ n) : (∀ W, (Instr.slice 42 (.slice A n c) none (some (.int .i64 (k : Int))) none).run Tryz.prog W = .ok (.slice A k c) W) ∧ In w A (L.take k) k c := by
  obtain ⟨h1, h2⟩ := slice_high h.bys n k c h.len hk h.cap
  exact ⟨h1, by rw [List.length_take, h.len]; omega, by have := h.cap; omega, h.top, h2, h.byt.take k⟩
theorem in_mid {w : World} {A : Option Addr} {L : List Int} {n a k c : Nat} (h : In w A L n c) (hk : a + k ≤ n) : ∃ A', (∀ W, (Instr.slice 42 (.slice A n c) (some (.int .i64 (a : Int))) (some (.int .i64 ((a : Int) + k))) none).run Tryz.prog W = .ok (.slice A' k (c - a)) W) ∧ In w A' ((L.drop a).take k) k (c - a) ∧ (A ≠ none → A' ≠ none) := by
  refine ⟨if c = a then A else A.map (·.add a), fun W => ?_, ⟨by rw [List.length_take, List.length_drop, h.len]; omega, by have := h.cap; omega, by have := h.top; omega, h.bys.part a k c (by rw [h.len]; exact h.cap), (h.byt.drop a).take k⟩, fun hA => ?_⟩
  · have e : ((a : Int) + k).toNat = a + k := by omega
    have hc := h.cap
    rw [run_slice_lh (P := Tryz.prog) W _ A n c under8 .i64 .i64 (a : Int) ((a : Int) + k) (by omega) (by omega) (by omega), size8, e]
    simp [Result.andThen, sliced]
  · split
    · exact hA
    · cases A with
      | none => exact absurd rfl hA
      | some ad => simp
theorem in_some {w : World} {A : Option Addr} {L : List Int} {n c : Nat} (h : In w A L n c) (h0 : 0 < n) : A ≠ none := fun e => by
  subst e
  have := h.len
  rcases h.bys with h | ⟨ad, h, _⟩
  · rw [h] at this
    simp at this
    omega
  · cases h
theorem numL_nat {L : List Int} (h : Byt L) : ∃ y : Nat, numL L = y ∧ y < 4294967296 := by
  obtain ⟨h0, h1⟩ := numL_in L h
  exact ⟨(numL L).toNat, by omega, by omega⟩
set_option maxRecDepth 100000 in
theorem read_out (A : Option Addr) (L : List Int) (n c : Nat) (at_ : Int) (w : World) (h : In w A L n c) (ho : at_ < 0 ∨ (n : Int) < at_) :
    Calls Tryz.prog 90 #[.slice A n c, .int .i64 at_] w (Got w (fReadP L at_)) := by
  have HE := Lib.hid (readP_out (L := L) (at_ := at_) (by rw [h.len]; exact ho))
  clear h
  by_cases h0 : at_ < 0
  · clear ho
    go_enter Tryz.func90, Tryz.ntmps90
    go_wp2
    go_ret3
    exact got_none _ _ _ HE.out _ (Below.refl _ _)
  · have h1 : (n : Int) < at_ := by omega
    have h0' : decide (at_ < 0) = false := by simpa using h0
    clear ho
    go_enter Tryz.func90, Tryz.ntmps90
    go_wp2
    go_ret3
    exact got_none _ _ _ HE.out _ (Below.refl _ _)
set_option maxRecDepth 100000 in
set_option maxHeartbeats 2000000 in
theorem read_few (A : Option Addr) (L : List Int) (a k c : Nat) (w : World) (h : In w A L (a + k) c) (hk : k < 8) :
    Calls Tryz.prog 90 #[.slice A (a + k) c, .int .i64 (a : Int)] w (Got w (fReadP L a)) := by
  obtain ⟨A1, s1, i1⟩ := in_low h
  have ha0 : decide ((a : Int) < 0) = false := by simp
  have ha1 : decide (((a + k : Nat) : Int) < (a : Int)) = false := by simp; omega
  have hlen := h.len
  have hl1 := i1.len
  by_cases hz : k = 0
  · have hz' : ((k : Int) == 0) = true := by simp; omega
    have HE := Lib.hid (readP_bad (L := L) (a := a) (e := 12) (by omega) (by rw [List.drop_of_length_le (by omega)]; rfl) (by decide))
    clear h i1 hlen hl1 hz
    go_enter Tryz.func90, Tryz.ntmps90
    go_wp2_with fail
    go_ret3
    exact got_none _ _ _ HE.out _ (Below.refl _ _)
  · have HE := Lib.hid (readP_bad (L := L) (a := a) (e := 10) (by omega) (readL_few _ (fun e => by rw [e] at hl1; simp at hl1; omega) (by omega)) (by decide))
    have hk' : (k : Int) < 8 := by omega
    have hz' : ((k : Int) == 0) = false := by simp; omega
    clear h i1 hlen hl1 hz
    go_enter Tryz.func90, Tryz.ntmps90
    go_wp2_with fail
    go_ret3
    exact got_none _ _ _ HE.out _ (Below.refl _ _)
set_option maxRecDepth 100000 in
set_option maxHeartbeats 2000000 in
theorem read_in (A : Option Addr) (L : List Int) (a k c : Nat) (w : World) (h : In w A L (a + k) c) (hk : ¬ k < 8) :
    Calls Tryz.prog 90 #[.slice A (a + k) c, .int .i64 (a : Int)] w (Got w (fReadP L a)) := by
  obtain ⟨A1, s1, i1⟩ := in_low h
  have ha0 : decide ((a : Int) < 0) = false := by simp
  have ha1 : decide (((a + k : Nat) : Int) < (a : Int)) = false := by simp; omega
  have hz' : ((k : Int) == 0) = false := by simp; omega
  have hk' : decide ((k : Int) < 8) = false := by simp; omega
  have haL : Hid (a ≤ L.length) := Lib.hid (by rw [h.len]; omega)
  have htop : Hid ((a : Int) + k ≤ 9223372036854775807) := Lib.hid (by have := h.cap; have := h.top; omega)
  obtain ⟨R, hR⟩ : ∃ R, L.drop a = R := ⟨_, rfl⟩
  have HR := Lib.hid hR
  rw [hR] at i1
  have W1 := Lib.hid (word_any A1 R k (c - a) w i1 (by omega))
  have I1 := Lib.hid i1
  obtain ⟨hm0, hm1⟩ := numL_in R i1.byt
  obtain ⟨m, hm⟩ := Int.eq_ofNat_of_zero_le hm0
  have HM := Lib.hid hm
  have R8 : Hid (¬ R.length < 8) := Lib.hid (by rw [i1.len]; exact hk)
  rw [hm] at W1
  clear h hR i1 hm hm0 hm1 hk
  by_cases hl : 2097152 < m
  · have hl' : (2097152 : Int) < m := by omega
    have HE := Lib.hid (readP_bad (L := L) haL.out (by rw [HR.out]; exact readL_great R8.out (by rw [HM.out]; exact hl')) (by decide))
    clear hl
    go_enter Tryz.func90, Tryz.ntmps90
    go_wp2_with (go_at_call 107; refine W1.out.mono ?_; rintro e w1 ⟨rfl, hw⟩; subst hw)
    go_ret3
    exact got_none _ _ _ HE.out _ (Below.refl _ _)
  · have hl' : ¬ (2097152 : Int) < m := by omega
    have hm2 : (m : Int) ≤ 2097152 := by omega
    by_cases ht : k < 8 + m
    · have ht' : (k : Int) < 8 + m := by omega
      have HE := Lib.hid (readP_bad (L := L) haL.out (by rw [HR.out]; exact readL_torn R8.out HM.out hl (by rw [I1.out.len]; exact ht)) (by decide))
      go_enter Tryz.func90, Tryz.ntmps90
      go_wp2_with (go_at_call 107; refine W1.out.mono ?_; rintro e w1 ⟨rfl, hw⟩; subst hw)
      go_ret3
      exact got_none _ _ _ HE.out _ (Below.refl _ _)
    · have ht' : ¬ (k : Int) < 8 + m := by omega
      obtain ⟨A2, z2, i2, z5⟩ := in_mid I1.out (a := 8) (k := m) (by omega)
      have HA := Lib.hid (z5 (in_some I1.out (by omega)))
      have s2 : ∀ W, (Instr.slice 42 (.slice A1 k (c - a)) (some (.int .i64 8)) (some (.int .i64 (8 + (m : Int)))) none).run Tryz.prog W = .ok (.slice A2 m (c - a - 8)) W := z2
      obtain ⟨A3, z3, i3⟩ := in_low (a := 4) (k := k - 4) (show In w A1 R (4 + (k - 4)) (c - a) by rw [show 4 + (k - 4) = k by omega]; exact I1.out)
      rw [show 4 + (k - 4) = k by omega] at z3
      have s3 : ∀ W, (Instr.slice 42 (.slice A1 k (c - a)) (some (.int .i64 4)) none none).run Tryz.prog W = .ok (.slice A3 (k - 4) (c - a - 4)) W := z3
      obtain ⟨z4, i4⟩ := in_high I1.out (k := 4) (by omega)
      have s4 : ∀ W, (Instr.slice 42 (.slice A1 k (c - a)) none (some (.int .i64 4)) none).run Tryz.prog W = .ok (.slice A1 4 (c - a)) W := z4
      have I2 := Lib.hid i2
      have I3 := Lib.hid i3
      have I4 := Lib.hid i4
      have HT := Lib.hid (And.intro ht hl)
      obtain ⟨y, hy, -⟩ := numL_nat i3.byt
      obtain ⟨S, hS⟩ : ∃ S, sumL (R.take 4 ++ (R.drop 8).take m) = S := ⟨_, rfl⟩
      have W3 := Lib.hid (word_any A3 (R.drop 4) (k - 4) (c - a - 4) w.drew (i3.kept (Below.refl _ w).drew) (by omega))
      have W3' := Lib.hid (word_any A3 (R.drop 4) (k - 4) (c - a - 4) (w.drew.alloc (.cells #[.slice A1 4 (c - a), .slice A2 m (c - a - 8)] 42)) (i3.kept (((Below.refl _ w).drew).alloc (Nat.le_refl _) _)) (by omega))
      have S3 : Hid (Calls Tryz.prog 103 #[.slice (some ⟨w.heap.size, 0, none⟩) 2 2] (w.drew.alloc (.cells #[.slice A1 4 (c - a), .slice A2 m (c - a - 8)] 42)) fun e w' => e = .returned (.int .u32 (S : Nat)) ∧ w.drew.alloc (.cells #[.slice A1 4 (c - a), .slice A2 m (c - a - 8)] 42) = w') := Lib.hid (by
        have hB : Below w.heap.size w (w.drew.alloc (.cells #[.slice A1 4 (c - a), .slice A2 m (c - a - 8)] 42)) := ((Below.refl _ w).drew).alloc (Nat.le_refl _) _
        have := sumOf_any (some ⟨w.heap.size, 0, none⟩) [⟨A1, c - a, R.take 4⟩, ⟨A2, c - a - 8, (R.drop 8).take m⟩] 2 2 _ rfl (by decide) (lit_lies w.drew _ _ (by simp only [svals, Sl.val, List.map, i4.len, i2.len]) _)
          (AllIn.cons (i4.of_n.kept hB) (AllIn.cons (i2.of_n.kept hB) (AllIn.nil _)))
        have e : (byts [⟨A1, c - a, R.take 4⟩, ⟨A2, c - a - 8, (R.drop 8).take m⟩]).flatten = R.take 4 ++ (R.drop 8).take m := by simp [byts]
        rw [e, hS] at this
        exact this)
      rw [hy] at W3 W3'
      have HY := Lib.hid hy
      have HS := Lib.hid hS
      have HW : Hid (wrap64 ((a : Int) + (8 + (m : Int))) = (a : Int) + ((8 + m : Nat) : Int)) := Lib.hid (by have := htop.out; unfold wrap64; omega)
      have BX : Hid (Below w.heap.size w (w.drew.alloc (.cells #[.slice A1 4 (c - a), .slice A2 m (c - a - 8)] 42))) := Lib.hid (((Below.refl _ w).drew).alloc (Nat.le_refl _) _)
      have CL := Lib.hid (longer_n (cloneF_any A2 ((R.drop 8).take m) m (c - a - 8) (w.drew.alloc (.cells #[.slice A1 4 (c - a), .slice A2 m (c - a - 8)] 42)) HA.out i2.len (i2.kept BX.out).bys (by rw [i2.len]; omega)) rfl i2.len)
      clear z2 z3 z4 z5 i2 i3 i4 ht hl hy hS
      by_cases hs : y = S
      · have hs' : ((y : Int) == (S : Int)) = true := by simp [hs]
        have HE := Lib.hid (readP_ok (L := L) haL.out (by rw [HR.out]; exact readL_good R8.out HM.out HT.out.2 (by rw [I1.out.len]; have := HT.out.1; omega) (by rw [HY.out, HS.out, hs])))
        clear hs
        go_enter Tryz.func90, Tryz.ntmps90
        go_upto_region 15 with (go_at_call 107; refine W1.out.mono ?_; rintro e w1 ⟨rfl, hw⟩; subst hw)
        clear s1 s2 W1
        go_region_with (first
          | (go_at_call 107; refine W3.out.mono ?_; rintro e w1 ⟨rfl, hw⟩; subst hw)
          | (go_at_call 107; refine W3'.out.mono ?_; rintro e w1 ⟨rfl, hw⟩; subst hw)
          | (go_at_call 103; refine S3.out.mono ?_; rintro e w1 ⟨rfl, hw⟩; subst hw))
        all_goals
          go_wp2_with (go_at_call 42; refine CL.out.mono ?_; rintro e w5 ⟨A5, c5, rfl, r5, b5⟩; have R5 := Lib.hid r5; have B5 := Lib.hid (below_then BX.out b5); clear r5 b5)
          go_ret3
          rw [HE.out]
          refine ⟨A5, c5, ?_, R5.out.mono BX.out.size, B5.out⟩
          show Ending.returned (.tuple #[.slice A5 m c5, .int .i64 (wrap64 ((a : Int) + (8 + (m : Int)))), .int .i64 0]) = .returned (.tuple #[.slice A5 ((R.drop 8).take m).length c5, .int .i64 ((a : Int) + ((8 + m : Nat) : Int)), .int .i64 0])
          rw [I2.out.len, HW.out]
      · have hs' : ((y : Int) == (S : Int)) = false := by simp; omega
        have HE := Lib.hid (readP_bad (L := L) haL.out (by rw [HR.out]; exact readL_sum R8.out HM.out HT.out.2 (by rw [I1.out.len]; have := HT.out.1; omega) (by rw [HY.out, HS.out]; omega)) (by decide))
        clear hs CL
        go_enter Tryz.func90, Tryz.ntmps90
        go_upto_region 15 with (go_at_call 107; refine W1.out.mono ?_; rintro e w1 ⟨rfl, hw⟩; subst hw)
        clear s1 s2 W1
        go_region_with (first
          | (go_at_call 107; refine W3.out.mono ?_; rintro e w1 ⟨rfl, hw⟩; subst hw)
          | (go_at_call 107; refine W3'.out.mono ?_; rintro e w1 ⟨rfl, hw⟩; subst hw)
          | (go_at_call 103; refine S3.out.mono ?_; rintro e w1 ⟨rfl, hw⟩; subst hw))
        all_goals
          go_wp2_with fail
          go_ret3
          exact got_none _ _ _ HE.out _ BX.out
theorem readF_any (A : Option Addr) (L : List Int) (n c : Nat) (at_ : Int) (w : World) (h : In w A L n c) :
    Calls Tryz.prog 90 #[.slice A n c, .int .i64 at_] w (Got w (fReadP L at_)) := by
  by_cases g : at_ < 0 ∨ (n : Int) < at_
  · exact read_out A L n c at_ w h g
  · obtain ⟨a, rfl⟩ := Int.eq_ofNat_of_zero_le (a := at_) (by omega)
    obtain ⟨k, rfl⟩ : ∃ k, n = a + k := ⟨n - a, by omega⟩
    by_cases hk : k < 8
    · exact read_few A L a k c w h hk
    · exact read_in A L a k c w h hk
end Go.Proofs.YtmgggddnfeojmaaGreat
namespace Go.Proofs.YtmgggddnfeojmaaGreat
open Go.RowKit
theorem ret_four (fn : Func) (p q r s : Tmp) (h : fn.results = #[.tmp p, .tmp q, .tmp r, .tmp s]) (tmps : Array Value) (P : Program) (w : World) :
    (results fn tmps).run P w = .ok (.tuple #[tmps.getD p undef, tmps.getD q undef, tmps.getD r undef, tmps.getD s undef]) w := by
  simp [results, h]
theorem fRead_facts {L : List Int} {a : Int} (hB : Byt L) : Byt (fReadP L a).1 ∧ (fReadP L a).1.length ≤ 2097152 ∧ ((fReadP L a).2.2 = 0 → 0 ≤ a ∧ a + 8 + (fReadP L a).1.length = (fReadP L a).2.1 ∧ (fReadP L a).2.1 ≤ L.length) := by
  unfold fReadP
  split
  · exact ⟨(fun x hx => by cases hx), by simp, fun h => by simp at h⟩
  · next h1 =>
    split
    · next h2 =>
      obtain ⟨k1, k2, k3, k4, k5⟩ := readL_ok _ h2
      refine ⟨k5 (fun x hx => hB x (List.mem_of_mem_drop hx)), k4, fun _ => ⟨by omega, ?_, ?_⟩⟩
      · simp only
        omega
      · simp only [List.length_drop] at k2
        simp only
        omega
    · next h2 =>
      exact ⟨(fun x hx => by cases hx), by simp, fun h => absurd h h2⟩
/-- What the reading of a head answers. -/
def HdE (w : World) (r : Option (Int × List Int × Int)) (e : Ending) (w' : World) : Prop := Below w.heap.size w w' ∧ match r with
  | none => ∃ n A m c a, e = .returned (.tuple #[.int .u64 n, .slice A m c, .int .i64 a, .bool false])
  | some (n, K, a) => ∃ A c, e = .returned (.tuple #[.int .u64 n, .slice A K.length c, .int .i64 a, .bool true]) ∧ Row w' w.heap.size A c K ∧ Byt K ∧ K.length ≤ 200 ∧ 0 ≤ n ∧ n ≤ 18446744073709551615 ∧ 0 ≤ a
theorem hdE_none {w w' : World} {r : Option (Int × List Int × Int)} {n : Int} {A : Option Addr} {m c : Nat} {a : Int} (h : r = none) (hb : Below w.heap.size w w') : HdE w r (.returned (.tuple #[.int .u64 n, .slice A m c, .int .i64 a, .bool false])) w' := by
  subst h
  exact ⟨hb, n, A, m, c, a, rfl⟩
set_option maxRecDepth 100000 in
set_option maxHeartbeats 8000000 in
theorem headOf_any (A : Option Addr) (L : List Int) (n c : Nat) (w : World) (h : In w A L n c) :
    Calls Tryz.prog 67 #[.slice A n c] w (HdE w (headP L)) := by
  have HR := Lib.hid (readF_any A L n c 0 w h)
  obtain ⟨R, hR⟩ : ∃ R, headP L = R := ⟨_, rfl⟩
  rw [hR]
  obtain ⟨p1, p2, p3⟩ := fRead_facts (a := 0) h.byt
  unfold headP at hR
  unfold Got at HR
  clear h
  generalize fReadP L 0 = p at HR hR p1 p2 p3
  obtain ⟨P, nx, er⟩ := p
  simp only at HR hR p1 p2 p3
  have HU : Hid (∀ A c W, In W A P P.length c → Calls Tryz.prog 91 #[.slice A P.length c, .int .i64 0] W fun e w' => e = Ans (uintP P 0) ∧ W = w') := Lib.hid (fun A c W hi => uint_any A P _ c 0 W hi)
  obtain ⟨u0, u1, -, -, -, -⟩ := uintP_bd P 0 p1
  unfold Ans at HU
  generalize uintP P 0 = q at HU hR u0 u1
  obtain ⟨num, at1, er1⟩ := q
  simp only at HU hR u0 u1
  have HV : Hid (∀ A c W, In W A P P.length c → Calls Tryz.prog 92 #[.slice A P.length c, .int .i64 at1, .int .i64 200] W (GotV W (bytesP P at1 200))) := Lib.hid (fun A c W hi => vbytes_any A P _ c at1 200 W hi (by omega) (by omega))
  have v1 := bytesP_byt (a := at1) (most := 200) p1
  have v2 : (bytesP P at1 200).2.2 = 0 → (bytesP P at1 200).1.length ≤ 200 := fun h => by
    have k := bytesP_in h
    rw [k.2.2.2]
    simp only [List.length_take]
    omega
  unfold GotV at HV
  generalize bytesP P at1 200 = q at HV hR v1 v2
  obtain ⟨K, at2, er2⟩ := q
  simp only at HV hR v1 v2
  have V1 := Lib.hid v1
  have P1 := Lib.hid p1
  obtain ⟨pn, hpn⟩ : ∃ t, P.length = t := ⟨_, rfl⟩
  rw [hpn] at HR HU HV hR
  have HPN := Lib.hid hpn
  clear v1 p1 hpn p2
  by_cases g0 : er = 0
  · have g0' : (er != 0) = false := by simpa using g0
    rw [if_neg (by simpa using g0)] at hR
    have q3 := Lib.hid (p3 g0)
    clear p3 g0
    by_cases g1 : er1 = 0
    · have g1' : (er1 != 0) = false := by simpa using g1
      rw [if_neg (by simpa using g1)] at hR
      clear g1
      by_cases g2 : er2 = 0
      · have g2' : (er2 == 0) = true := by simpa using g2
        rw [if_neg (by simpa using g2)] at hR
        have v3 := Lib.hid (v2 g2)
        clear g2 v2
        by_cases g3 : at2 = pn
        · have g3' : (at2 == (pn : Int)) = true := by simpa using g3
          rw [if_neg (by simpa using g3)] at hR
          have HRR := Lib.hid hR
          clear hR g3
          go_enter Tryz.func67, Tryz.ntmps67
          go_wp2_with (first
            | (go_at_call 90; refine HR.out.mono ?_; rintro e w1 ⟨A1, c1, rfl, r1, b1⟩; have B1 := Lib.hid b1; have I1 : Hid (In w1 A1 P pn c1) := Lib.hid (r1.in_n P1.out HPN.out); clear r1 b1)
            | (go_at_call 91; refine (HU.out _ _ _ I1.out).mono ?_; rintro e w2 ⟨rfl, rfl⟩)
            | (go_at_call 92; refine (HV.out _ _ _ I1.out).mono ?_; rintro e w3 ⟨A3, c3, rfl, m3, b3⟩; have R3 := Lib.hid ((gotV_row m3).mono B1.out.size); have B3 := Lib.hid (below_then B1.out b3); clear m3 b3))
          refine bodyPost_ret (ret_four _ _ _ _ _ rfl _ _ _) rfl ?_
          rw [← HRR.out]
          exact ⟨B3.out, A3, c3, rfl, R3.out, V1.out, v3.out, u0, u1, by have := q3.out; omega⟩
        · have g3' : (at2 == (pn : Int)) = false := by simpa using g3
          rw [if_pos (by simpa using g3)] at hR
          have HRR := Lib.hid hR.symm
          clear hR g3
          go_enter Tryz.func67, Tryz.ntmps67
          go_wp2_with (first
            | (go_at_call 90; refine HR.out.mono ?_; rintro e w1 ⟨A1, c1, rfl, r1, b1⟩; have B1 := Lib.hid b1; have I1 : Hid (In w1 A1 P pn c1) := Lib.hid (r1.in_n P1.out HPN.out); clear r1 b1)
            | (go_at_call 91; refine (HU.out _ _ _ I1.out).mono ?_; rintro e w2 ⟨rfl, rfl⟩)
            | (go_at_call 92; refine (HV.out _ _ _ I1.out).mono ?_; rintro e w3 ⟨A3, c3, rfl, m3, b3⟩; have B3 := Lib.hid (below_then B1.out b3); clear m3 b3))
          refine bodyPost_ret (ret_four _ _ _ _ _ rfl _ _ _) rfl ?_
          exact hdE_none HRR.out B3.out
      · have g2' : (er2 == 0) = false := by simpa using g2
        rw [if_pos (by simpa using g2)] at hR
        have HRR := Lib.hid hR.symm
        clear hR g2 v2
        go_enter Tryz.func67, Tryz.ntmps67
        go_wp2_with (first
          | (go_at_call 90; refine HR.out.mono ?_; rintro e w1 ⟨A1, c1, rfl, r1, b1⟩; have B1 := Lib.hid b1; have I1 : Hid (In w1 A1 P pn c1) := Lib.hid (r1.in_n P1.out HPN.out); clear r1 b1)
          | (go_at_call 91; refine (HU.out _ _ _ I1.out).mono ?_; rintro e w2 ⟨rfl, rfl⟩)
          | (go_at_call 92; refine (HV.out _ _ _ I1.out).mono ?_; rintro e w3 ⟨A3, c3, rfl, m3, b3⟩; have B3 := Lib.hid (below_then B1.out b3); clear m3 b3))
        refine bodyPost_ret (ret_four _ _ _ _ _ rfl _ _ _) rfl ?_
        exact hdE_none HRR.out B3.out
    · have g1' : (er1 != 0) = true := by simpa using g1
      rw [if_pos (by simpa using g1)] at hR
      have HRR := Lib.hid hR.symm
      clear hR g1 v2 HV
      go_enter Tryz.func67, Tryz.ntmps67
      go_wp2_with (first
        | (go_at_call 90; refine HR.out.mono ?_; rintro e w1 ⟨A1, c1, rfl, r1, b1⟩; have B1 := Lib.hid b1; have I1 : Hid (In w1 A1 P pn c1) := Lib.hid (r1.in_n P1.out HPN.out); clear r1 b1)
        | (go_at_call 91; refine (HU.out _ _ _ I1.out).mono ?_; rintro e w2 ⟨rfl, rfl⟩))
      refine bodyPost_ret (ret_four _ _ _ _ _ rfl _ _ _) rfl ?_
      exact hdE_none HRR.out B1.out
  · have g0' : (er != 0) = true := by simpa using g0
    rw [if_pos (by simpa using g0)] at hR
    have HRR := Lib.hid hR.symm
    clear hR g0 v2 HV HU p3
    go_enter Tryz.func67, Tryz.ntmps67
    go_wp2_with (go_at_call 90; refine HR.out.mono ?_; rintro e w1 ⟨A1, c1, rfl, r1, b1⟩; have B1 := Lib.hid b1; clear r1 b1)
    refine bodyPost_ret (ret_four _ _ _ _ _ rfl _ _ _) rfl ?_
    exact hdE_none HRR.out B1.out
end Go.Proofs.YtmgggddnfeojmaaGreat
namespace Go.Proofs.YtmgggddnfeojmaaGreat
open Go.RowKit
theorem versP_few {L : List Int} (hB : Byt L) (k : List Int) : ∀ (n : Nat) (a : Int) (acc : List Er) (r : List Er × Int), (acc.length : Int) ≤ a → a ≤ L.length → versP L k n a acc = some r → (r.1.length : Int) ≤ r.2 ∧ r.2 ≤ L.length
  | 0, a, acc, r, h1, h2, h => by
    unfold versP at h
    injection h with h
    rw [← h]
    exact ⟨h1, h2⟩
  | n + 1, a, acc, r, h1, h2, h => by
    unfold versP at h
    split at h
    · cases h
    · next h3 =>
      obtain ⟨b0, b1, b2, -⟩ := verP_ok hB (L := L) (a := a) (by simpa using h3)
      exact versP_few hB k n _ _ r (by simp only [List.length_append, List.length_singleton]; omega) b2 h
theorem unpF_few {L : List Int} (hB : Byt L) : ∀ (ps : List Pr) (a : Int) (acc l : List Er), (acc.length : Int) ≤ a → a ≤ L.length → unpF L ps a acc = some l → l.length ≤ L.length
  | [], a, acc, l, h1, h2, h => by
    unfold unpF at h
    split at h
    · injection h with h
      rw [← h]
      omega
    · cases h
  | p :: ps, a, acc, l, h1, h2, h => by
    unfold unpF at h
    split at h
    · cases h
    · split at h
      · cases h
      · next acc' a' hv =>
        obtain ⟨k1, k2⟩ := versP_few hB p.1 _ a acc (acc', a') h1 h2 hv
        exact unpF_few hB ps a' acc' l k1 k2 h
theorem unpackE_few {L : List Int} {l : List Er} (hB : Byt L) (h : unpackE L = some l) : l.length ≤ L.length := by
  unfold unpackE at h
  split at h
  · cases h
  · next h1 =>
    split at h
    · cases h
    · have := bytesP_end hB (by simpa using h1)
      exact unpF_few hB _ _ [] l (by simpa using this.1) this.2 h
theorem idxP_bad {L : List Int} {n : Nat} {a : Int} {acc : List Er} (h : (fReadP L a).2.2 ≠ 0) : idxP L (n + 1) a acc = none := by
  unfold idxP
  rw [if_pos h]
theorem idxP_none {L : List Int} {n : Nat} {a : Int} {acc : List Er} (h : (fReadP L a).2.2 = 0) (g : unpackE (fReadP L a).1 = none) : idxP L (n + 1) a acc = none := by
  unfold idxP
  rw [if_neg (by simpa using h), g]
theorem idxP_some {L : List Int} {n : Nat} {a : Int} {acc l : List Er} (h : (fReadP L a).2.2 = 0) (g : unpackE (fReadP L a).1 = some l) : idxP L (n + 1) a acc = idxP L n (fReadP L a).2.1 (acc ++ l) := by
  conv => lhs; unfold idxP
  rw [if_neg (by simpa using h), g]
/-- What the reading of an index answers. -/
def IxE (w : World) (r : Option (List Er × Int)) (e : Ending) (w' : World) : Prop := Below w.heap.size w w' ∧ match r with
  | none => ∃ A n c a, e = .returned (.tuple #[.slice A n c, .int .i64 a, .bool false])
  | some (l, a) => ∃ l' A c, ers l' = l ∧ e = .returned (.tuple #[.slice A l'.length c, .int .i64 a, .bool true]) ∧ EMades w' w.heap.size l' ∧ Erow w' w.heap.size A c l' ∧ (∀ p ∈ l, ErB p) ∧ (∀ q ∈ l', EFit q)
theorem ixE_none {w w' : World} {r : Option (List Er × Int)} {A : Option Addr} {n c : Nat} {a : Int} (h : r = none) (hb : Below w.heap.size w w') : IxE w r (.returned (.tuple #[.slice A n c, .int .i64 a, .bool false])) w' := by
  subst h
  exact ⟨hb, A, n, c, a, rfl⟩
/-- Where the reading of the index stands. -/
structure IrS (L : List Int) (a0 a : Int) (T : List En) : Prop where
  lo : a0 ≤ a
  hi : a ≤ L.length ∨ a = a0
  few : (T.length : Int) + a0 ≤ a
  byt : ∀ p ∈ ers T, ErB p
  fit : ∀ q ∈ T, EFit q
set_option maxRecDepth 100000 in
set_option maxHeartbeats 16000000 in
theorem indexAt_any (A : Option Addr) (L : List Int) (n c : Nat) (a0 num : Int) (w : World) (h : In w A L n c) (hl : n ≤ 1099511627776) (hn0 : 0 ≤ num) (hn1 : num ≤ 18446744073709551615) (h0 : 0 ≤ a0) :
    Calls Tryz.prog 68 #[.slice A n c, .int .i64 a0, .int .u64 num] w (IxE w (idxP L num.toNat a0 [])) := by
  obtain ⟨N, rfl⟩ := Int.eq_ofNat_of_zero_le hn0
  rw [Int.toNat_natCast]
  obtain ⟨R, hR⟩ : ∃ R, idxP L N a0 [] = R := ⟨_, rfl⟩
  rw [hR]
  have HR1 := Lib.hid hR.symm
  have HI : Hid (∀ W, Below w.heap.size w W → In W A L n c) := Lib.hid (fun W hb => h.kept hb)
  have HY := Lib.hid h.byt
  have HN := Lib.hid h.len
  have HL := Lib.hid hl
  have H0 := Lib.hid h0
  clear h hl hR hn0 h0
  go_enter Tryz.func68, Tryz.ntmps68
  go_upto_region 3 with fail
  go_loopw [1, 9, 16] (fun t1 t9 t16 wr => ∃ (k : Nat) (a : Int) (T : List En) (A9 : Option Addr) (c9 : Nat), k ≤ N ∧ t16 = .int .u64 k ∧ t1 = .int .i64 a ∧ t9 = .slice A9 T.length c9 ∧ Hid (R = idxP L (N - k) a (ers T)) ∧ Hid (IrS L a0 a T) ∧ Hid (EMades wr w.heap.size T) ∧ Hid (Erow wr w.heap.size A9 c9 T) ∧ Hid (Below w.heap.size w wr)) (fun _ _ t16 _ => N - (intOf t16).toNat)
  case atStart => exact ⟨0, a0, [], none, 0, by omega, rfl, rfl, rfl, HR1, Lib.hid ⟨Int.le_refl _, .inr rfl, by simp, (fun p hp => by cases hp), (fun q hq => by cases hq)⟩, Lib.hid (EMades.nil _ _), Lib.hid (Erow.nil _ _), Lib.hid (Below.refl _ _)⟩
  case round =>
    obtain ⟨k, a, T, A9, c9, hk, rfl, rfl, rfl, HRR, HIS, HEM, HER, HBB⟩ := hrel
    by_cases hlt : k < N
    · have HF := Lib.hid (readF_any A L n c a wr (HI.out _ HBB.out))
      obtain ⟨p1, p2, p3⟩ := fRead_facts (a := a) HY.out
      have e1 : (fReadP L a).2.2 ≠ 0 → R = none := fun h => by
        rw [HRR.out, show N - k = (N - (k + 1)) + 1 by omega]
        exact idxP_bad h
      have e2 : (fReadP L a).2.2 = 0 → unpackE (fReadP L a).1 = none → R = none := fun h g => by
        rw [HRR.out, show N - k = (N - (k + 1)) + 1 by omega]
        exact idxP_none h g
      have e3 : (fReadP L a).2.2 = 0 → ∀ l, unpackE (fReadP L a).1 = some l → R = idxP L (N - (k + 1)) (fReadP L a).2.1 (ers T ++ l) := fun h l g => by
        rw [HRR.out, show N - k = (N - (k + 1)) + 1 by omega]
        exact idxP_some h g
      have e4 := fun l => unpackE_few (l := l) p1
      unfold Got at HF
      generalize fReadP L a = q at HF p1 p2 p3 e1 e2 e3 e4
      obtain ⟨P, nx, er⟩ := q
      simp only at HF p1 p2 p3 e1 e2 e3 e4
      obtain ⟨pn, hpn⟩ : ∃ t, P.length = t := ⟨_, rfl⟩
      rw [hpn] at HF p2 p3
      have P1 := Lib.hid p1
      have P3 := Lib.hid p3
      have HPN := Lib.hid hpn
      have E1 := Lib.hid e1
      have HUN : Hid (∀ A c W, In W A P pn c → Calls Tryz.prog 93 #[.slice A pn c] W (UnE W (unpackE P))) := Lib.hid (fun A c W hi => unpack_any A P pn c W hi p2)
      generalize unpackE P = u at HUN e2 e3 e4
      have E2 := Lib.hid e2
      have E3 := Lib.hid e3
      have E4 := Lib.hid e4
      obtain ⟨tn, htn⟩ : ∃ t, T.length = t := ⟨_, rfl⟩
      rw [htn]
      have HTN := Lib.hid htn
      have j0 : (k : Int) < N := by omega
      clear p1 p2 p3 hpn e1 e2 e3 e4 htn HRR
      by_cases g0 : er = 0
      · have g0' : (er != 0) = false := by simpa using g0
        cases u with
        | none =>
          have HE := Lib.hid (E2.out g0 rfl)
          clear E1 E2 E3 E4 g0
          unfold UnE at HUN
          go_wp2_with (first
            | (go_at_call 90; refine HF.out.mono ?_; rintro e w1 ⟨A1, c1, rfl, r1, b1⟩; have B1 := Lib.hid b1; have I1 : Hid (In w1 A1 P pn c1) := Lib.hid (r1.in_n P1.out HPN.out); clear r1 b1)
            | (go_at_call 93; refine (HUN.out _ _ _ I1.out).mono ?_; rintro e w2 ⟨b2, A2, n2, c2, rfl⟩; have B2 := Lib.hid (below_then B1.out b2); clear b2))
          go_ret3
          exact ixE_none HE.out (HBB.out.trans (B2.out.mono HBB.out.size))
        | some l =>
          have HE := Lib.hid (E3.out g0 l rfl)
          have HF4 := Lib.hid (E4.out l rfl)
          have HP3 := Lib.hid (P3.out g0)
          clear E1 E2 E3 E4 P3 g0
          unfold UnE at HUN
          go_wp2_with (first
            | (go_at_call 90; refine HF.out.mono ?_; rintro e w1 ⟨A1, c1, rfl, r1, b1⟩; have B1 := Lib.hid b1; have I1 : Hid (In w1 A1 P pn c1) := Lib.hid (r1.in_n P1.out HPN.out); clear r1 b1)
            | (go_at_call 93; refine (HUN.out _ _ _ I1.out).mono ?_; rintro e w2 ⟨b2, l', A2, c2, hl', rfl, m2, r2, y2, f2⟩; have B2 := Lib.hid (below_then B1.out b2); have HL2 := Lib.hid hl'; have M2 := Lib.hid (m2.mono (Nat.le_trans HBB.out.size B1.out.size)); have L2 := Lib.hid r2.lies; have Y2 := Lib.hid (And.intro y2 f2); have HER2 := Lib.hid (HER.out.kept B2.out (Nat.le_refl _)); have HEM2 := Lib.hid (HEM.out.kept B2.out (Nat.le_refl _)); have HB2 := Lib.hid (HBB.out.trans (B2.out.mono HBB.out.size)); have HLN : Hid (l'.length ≤ pn) := Lib.hid (by have := HF4.out; rw [← hl', ers_len] at this; have := HPN.out; omega); clear b2 hl' m2 r2 y2 f2)
            | (at_builtin; refine wpList_append_erow _ rfl (.tmp 34) (.tmp 35) rfl w.heap.size A9 c9 T l' _ tn _ _ rfl rfl HTN.out rfl HER2.out L2.out HB2.out.size (by have := HIS.out.few; have := HIS.out.lo; have := HP3.out; have := HLN.out; have := HN.out; have := HL.out; have := H0.out; have := HTN.out; omega) ?_; intro A8 c8 w8 r8 b8 g8; have R8 := Lib.hid r8; have B8 := Lib.hid (HB2.out.trans b8); have M8 : Hid (EMades w8 w.heap.size (T ++ l')) := Lib.hid (by have g := g8; rw [← HTN.out] at g; have h1 := HEM2.out.besideE HER2.out g; have h2 := M2.out.besideE HER2.out g; intro q hq; rcases List.mem_append.1 hq with hq | hq; (exact h1 q hq); exact h2 q hq); clear r8 b8 g8))
          go_roundw
          case rel =>
            refine ⟨k + 1, nx, T ++ l', A8, c8, by omega, by go_num, rfl, by rw [List.length_append, HTN.out], Lib.hid (by rw [HE.out, ers_append, HL2.out]), Lib.hid ⟨?_, ?_, ?_, ?_, ?_⟩, M8, R8, B8⟩
            · have := HP3.out; have := HIS.out.lo; omega
            · exact .inl HP3.out.2.2
            · have := HP3.out; have := HIS.out.few; have := HLN.out; simp only [List.length_append]; omega
            · intro p hp
              rw [ers_append] at hp
              rcases List.mem_append.1 hp with hp | hp
              · exact HIS.out.byt p hp
              · exact Y2.out.1 p (HL2.out ▸ hp)
            · intro q hq
              rcases List.mem_append.1 hq with hq | hq
              · exact HIS.out.fit q hq
              · exact Y2.out.2 q hq
          case measure => simp [intOf]; omega
      · have g0' : (er != 0) = true := by simpa using g0
        have HE := Lib.hid (E1.out g0)
        clear E1 E2 E3 E4 P3 g0 HUN
        go_wp2_with (go_at_call 90; refine HF.out.mono ?_; rintro e w1 ⟨A1, c1, rfl, r1, b1⟩; have B1 := Lib.hid b1; clear r1 b1)
        go_ret3
        exact ixE_none HE.out (HBB.out.trans (B1.out.mono HBB.out.size))
    · obtain rfl : k = N := by omega
      have j0 : ¬ (k : Int) < k := by omega
      have HE : Hid (R = some (ers T, a)) := Lib.hid (by rw [HRR.out, Nat.sub_self]; rfl)
      go_wp2_with fail
      go_ret3
      rw [HE.out]
      exact ⟨HBB.out, T, A9, c9, rfl, rfl, HEM.out, HER.out, HIS.out.byt, HIS.out.fit⟩
end Go.Proofs.YtmgggddnfeojmaaGreat
