/-
  The laws: what is handed in stays; what is answered is new memory.
-/
import Derived.Test.YtimonpoeieenpaaKWa
import Derived.Test.YtimonpoeieenpaaKMk
import Derived.Test.YtimonpoeieenpaaKBi
import Derived.StillTailTactics
namespace Go.Proofs.Ytimonpoeieenpaa
open Go.RowKit

set_option maxRecDepth 100000 in
set_option maxHeartbeats 16000000 in
theorem lawOwn_of (hwk : Wakes 7) (A C : Option Addr) (l : List Bp) (L : List Int) (n c m d : Nat) (w : World) (hn : l.length = n) (h : Lies w A (pvals l)) (hi : Ins w l) (hl : n * 48 ≤ 140737488351232) (hs : ∀ q ∈ l, q.k.l.length ≤ 140737488351232 ∧ q.v.l.length ≤ 140737488351232) (g : In w C L m d) (hm : m ≤ 140737488351232) :
    Calls Try.prog 6 #[.slice A n c, .slice C m d] w fun e w' => e = .returned (.bool true) ∧ Below w.heap.size w w' := by
  have CP := Lib.hid (fun (w' : World) (hb : Below w.heap.size w w') => refCopy_any A l n c w' hn (h.kept hb) (hi.kept hb) hl hs)
  have HS : Hid (∀ T : List Bp, rds T = rds l → ∀ q ∈ T, q.k.l.length ≤ 140737488351232 ∧ q.v.l.length ≤ 140737488351232) := Lib.hid (fun T e q hq => by
    have h1 : q.rd ∈ rds l := e ▸ List.mem_map_of_mem hq
    obtain ⟨q', hq', e'⟩ := List.mem_map.1 h1
    have h2 := hs q' hq'
    have e1 : q'.k.l = q.k.l := congrArg Prod.fst e'
    have e2 : q'.v.l = q.v.l := congrArg Prod.snd e'
    rw [e1, e2] at h2
    exact h2)
  have HY := Lib.hid hi.byt
  have BB := Lib.hid (fun (T : List Bp) (B : Nat) (A' : Option Addr) (c' : Nat) (w' : World) (e : rds T = rds l) (hp : Prow w' B A' c' T) (hm : Mades w' B T) => by
    have h1 := build_any A' T n c' w' (by rw [← hn, ← rds_len, e, rds_len]) hp.lies (hm.ins (fun p hp => HY.out p (e ▸ hp))) hl (HS.out T e)
    rw [e] at h1
    exact h1)
  have HN := Lib.hid hn
  have HLN := Lib.hid hl
  have WK := Lib.hid hwk
  have HA := Lib.hid (fun (w' : World) (hb : Below w.heap.size w w') => And.intro (h.kept hb) (hi.kept hb))
  have HC := Lib.hid (fun (w' : World) (hb : Below w.heap.size w w') => g.kept hb)
  have OC := Lib.hid (fun (w' : World) (hb : Below w.heap.size w w') => own_any C L m d w' g.len (g.kept hb).bys (by rw [g.len]; exact Nat.le_trans hm (by decide)))
  have RC := Lib.hid (fun (A : Option Addr) (c : Nat) (w : World) (h : In w A L m c) => read_any A L m c w h (Nat.le_trans hm (by decide)))
  have RR := Lib.hid (fun (w' : World) (hb : Below w.heap.size w w') => refRead_any C L m d w' (g.kept hb) (Nat.le_trans hm (by decide)))
  have HML := Lib.hid g.len
  have HMM := Lib.hid hm
  have YL := Lib.hid g.byt
  have HPB : Hid (∀ p ∈ (readP L).1, PrB p) := Lib.hid (fun p hp => by
    by_cases e : (readP L).2 = 0
    · exact (readP_form g.byt (Prod.ext rfl e)).byt p hp
    · rw [readP_err e] at hp
      cases hp)
  have HPL : Hid ((readP L).1.length ≤ 4096) := Lib.hid (by
    by_cases e : (readP L).2 = 0
    · exact (readP_form g.byt (Prod.ext rfl e)).short.1
    · rw [readP_err e]
      simp)
  clear h hi hl hs hn hwk g hm
  generalize buildP (rds l) = bp at BB
  obtain ⟨F, br⟩ := bp
  generalize readP L = p at RC RR HPB HPL
  obtain ⟨P, r⟩ := p
  simp only at HPB HPL
  obtain ⟨z, hz⟩ : ∃ z, F.length = z := ⟨_, rfl⟩
  have HZ := Lib.hid hz
  clear hz
  have T1 := Lib.hid trivial
  go_enter Try.func6, Try.ntmps6
  go_upto_region 4 with (first
    | (go_at_call 7; refine (WK.out _).mono ?_; rintro e w1 ⟨rfl, b1⟩; have B1 := Lib.hid b1; clear b1 WK)
    | (go_at_call 9; refine (CP.out _ B1.out).mono ?_; rintro e w2 ⟨T2, A2, c2, t2, rfl, m2, p2, b2⟩; rw [show T2.length = n by rw [← HN.out, ← rds_len, t2, rds_len]]; have K2 := Lib.hid (And.intro t2 (And.intro m2 p2)); have B2 := Lib.hid (below_then B1.out b2); clear t2 m2 p2 b2 CP)
    | (have t := OC; go_at_call 13; refine (OC.out _ B2.out).mono ?_; rintro e w3 ⟨g3, c3, rfl, m3, b3⟩; rw [HML.out]; have R3 : Hid (Row (w3.alloc (.cells #[.int .u8 7] 5)) w2.heap.size (some ⟨g3, 0, none⟩) c3 L) := Lib.hid (Row.alloc (A := some ⟨g3, 0, none⟩) m3 _); have S3 : Hid (w2.heap.size ≤ w3.heap.size) := Lib.hid b3.size; have D3 : Hid (Below w2.heap.size w2 (w3.alloc (.cells #[.int .u8 7] 5))) := Lib.hid (b3.alloc b3.size _); clear m3 b3 t OC)
    | (have t1 := T1; at_builtin; refine wpList_append_row _ rfl (.tmp 24) (.tmp 25) rfl w2.heap.size (some ⟨g3, 0, none⟩) c3 L [7] _ m 1 1 rfl rfl HML.out rfl R3.out (lit_one w3 7) (by have := S3.out; rw [World.size_alloc]; omega) (by have := HML.out; have := HMM.out; simp only [List.length_singleton]; omega) ?_; intro A4 c4 w4 r4 b4; have R4 := Lib.hid r4; have D4 : Hid (Below w2.heap.size w2 w4) := Lib.hid (D3.out.trans b4); have B4 : Hid (Below w.heap.size w w4) := Lib.hid (below_then B2.out D4.out); clear r4 b4 T1 t1))
  have HLn : Hid ((L ++ [7]).length = m + 1) := Lib.hid (by rw [List.length_append, HML.out]; rfl)
  have HR4 := Lib.hid (own_cap R4.out)
  have hcn : m + 1 ≤ c4 := by have := HR4.out.1; have := HLn.out; omega
  have si := (slice_high R4.out.lies (m + 1) m c4 HLn.out (by omega) hcn).1
  have hq1 : (m : Int) < (m : Int) + 1 := by omega
  have hq2 : ((m + 1 : Nat) : Int) = (m : Int) + 1 := by omega
  have HBY : Hid (∀ W : World, Below w4.heap.size w4 W → Bys W A4 L) := Lib.hid (fun W hb => by
    have := (slice_high (R4.out.kept hb (Nat.le_refl _)).lies (m + 1) m c4 HLn.out (by omega) (by have := HR4.out.1; have := HLn.out; omega)).2
    rwa [List.take_left' HML.out] at this)
  have I4 : Hid (∀ W : World, Below w4.heap.size w4 W → In W A4 L m c4) := Lib.hid (fun W hb => ⟨HML.out, by have := HR4.out.1; have := HLn.out; omega, HR4.out.2, HBY.out W hb, YL.out⟩)
  have U2 := Lib.hid trivial
  have U3 := Lib.hid trivial
  have HL7 : Hid ((L ++ [7])[m]? = some 7) := Lib.hid (by rw [List.getElem?_append_right (by have := HML.out; omega), HML.out]; simp)
  obtain ⟨bd, rfl, -⟩ := row_place R4.out HL7.out
  have HB7 : Hid (∀ W : World, Below w4.heap.size w4 W → W.cell? (bd.add m) = some (.int .u8 7)) := Lib.hid (fun W hb => by
    obtain ⟨bd', e, h⟩ := row_place (R4.out.kept hb (Nat.le_refl _)) HL7.out
    injection e with e
    subst e
    exact h)
  go_upto_region 7 with (first
    | (have t := BB; go_at_call 8; refine (BB.out T2 _ A2 c2 _ K2.out.1 (K2.out.2.2.kept D4.out (Nat.le_refl _)) (K2.out.2.1.kept D4.out (Nat.le_refl _))).mono ?_; rintro e w5 ⟨A5, c5, rfl, r5, b5⟩; rw [HZ.out]; have R5 := Lib.hid r5; have C5 := Lib.hid b5; clear r5 b5 t BB)
    | (have t := U2; go_at_call 15; refine (RC.out _ _ _ (I4.out _ C5.out)).mono ?_; rintro e w6 ⟨T6, A6, c6, t6, rfl, m6, p6, b6⟩; have K6 := Lib.hid (And.intro t6 (And.intro m6 p6)); have D6 := Lib.hid b6; have C6 := Lib.hid (below_then C5.out b6); clear t6 m6 p6 b6 U2 t)
    | (have t := U3; go_at_call 15; refine (RC.out _ _ _ (I4.out _ C6.out)).mono ?_; rintro e w7 ⟨T7, A7, c7, t7, rfl, m7, p7, b7⟩; have K7 := Lib.hid (And.intro t7 (And.intro m7 p7)); have D7 := Lib.hid b7; have C7 := Lib.hid (below_then C6.out b7); clear t7 m7 p7 b7 U3 t))
  have M7 := Lib.hid (mq_new R5.out C5.out K6.out.2.1 K6.out.2.2 D6.out D7.out)
  rw [HZ.out] at M7
  have hz9 : Hid ((z : Int) ≤ 9223372036854775807) := Lib.hid (by have := own_cap R5.out; have := HZ.out; omega)
  obtain ⟨y, hy⟩ : ∃ y, T6.length = y := ⟨_, rfl⟩
  rw [hy]
  have HYL := Lib.hid hy
  have hy9 : Hid ((y : Int) ≤ 9223372036854775807) := Lib.hid (by have := own_cap K6.out.2.2; omega)
  have hl9 : Hid (∀ q ∈ T6, (q.k.l.length : Int) ≤ 9223372036854775807 ∧ (q.v.l.length : Int) ≤ 9223372036854775807) := Lib.hid (fun q hq => by
    have h1 := own_cap (K6.out.2.1 q hq).1
    have h2 := own_cap (K6.out.2.1 q hq).2
    omega)
  clear hy
  obtain ⟨x7, hx7⟩ : ∃ x, T7.length = x := ⟨_, rfl⟩
  rw [hx7]
  have HX7 := Lib.hid hx7
  clear hx7 hcn hq1 hq2 si
  go_wp2_with fail
  go_loopw [50] (fun t50 wr => ∃ k : Nat, k ≤ z ∧ t50 = .int .i64 k ∧ Hid (Mq w4.heap.size w6.heap.size w7 A6 c6 T6 A5 z wr)) (fun t50 _ => z - (intOf t50).toNat)
  case atStart => exact ⟨0, by omega, rfl, M7⟩
  case round =>
    obtain ⟨k, hk, rfl, hmk⟩ := hrel
    by_cases hlt : k < z
    · obtain ⟨gx, v, e, d0, f0, hset⟩ := hmk.out.mark hmk.out.xs hlt
      subst e
      have HSET := Lib.hid hset
      have hz10 := hz9.out
      clear hset
      go_wp2_with fail
      go_roundw
      case rel => exact ⟨k + 1, by omega, by go_num, Lib.hid (HSET.out _)⟩
      case measure => simp [intOf]; omega
    · obtain rfl : k = z := by omega
      clear hlt
      generalize wr = u0 at hmk
      go_wp2_with fail
      go_loopw [64] (fun t64 wr => ∃ j : Nat, j ≤ y ∧ t64 = .int .i64 j ∧ Hid (Mq w4.heap.size w6.heap.size w7 A6 c6 T6 A5 k wr)) (fun t64 _ => y - (intOf t64).toNat)
      case atStart => exact ⟨0, by omega, rfl, hmk⟩
      case round =>
        obtain ⟨j, hj, rfl, hmj⟩ := hrel
        by_cases hlt3 : j < y
        · have hs := List.getElem?_eq_getElem (l := T6) (i := j) (by have := HYL.out; omega)
          generalize T6[j]'(by have := HYL.out; omega) = s at hs
          have HSG := Lib.hid hs
          obtain ⟨ad, rfl, a0, a1⟩ := lies_pair hmj.out.row.lies hs
          have HAT := Lib.hid (fun (W : World) (hm : Mq w4.heap.size w6.heap.size w7 (some ad) c6 T6 A5 k W) => lies_pair_at hm.row.lies hs)
          have HQ9 := hl9.out s (List.mem_of_getElem? hs)
          have HMEM := Lib.hid (List.mem_of_getElem? hs)
          obtain ⟨⟨ka, kc, kl⟩, ⟨va, vc, vl⟩⟩ := s
          simp only at a0 a1 HQ9
          obtain ⟨q, hq⟩ : ∃ q, kl.length = q := ⟨_, rfl⟩
          obtain ⟨t, ht⟩ : ∃ t, vl.length = t := ⟨_, rfl⟩
          have HQ := Lib.hid hq
          have HT := Lib.hid ht
          rw [hq] at a0 HQ9
          rw [ht] at a1 HQ9
          have HQ10 := Lib.hid HQ9
          have j0 : (j : Int) < y := by omega
          clear hs hq ht HQ9 a1
          have hy10 := hy9.out
          go_wp2_with fail
          go_loopw [73] (fun t73 wr => ∃ i : Nat, i ≤ q ∧ t73 = .int .i64 i ∧ Hid (Mq w4.heap.size w6.heap.size w7 (some ad) c6 T6 A5 k wr)) (fun t73 _ => q - (intOf t73).toNat)
          case atStart => exact ⟨0, by omega, rfl, hmj⟩
          case round =>
            obtain ⟨i, hi, rfl, hmi⟩ := hrel
            by_cases hlt2 : i < q
            · have a0 := (HAT.out _ hmi.out).1
              simp only [HQ.out] at a0
              obtain ⟨gx, yv, hsa, d0, f0, hset⟩ := hmi.out.mark (k := i) (z' := q) (by have := (hmi.out.spots _ HMEM.out).1; rw [HQ.out] at this; exact this) hlt2
              subst hsa
              have HSET := Lib.hid hset
              clear hset
              have i0 : (i : Int) < q := by omega
              go_upto_region 18 with fail
              go_region
              have hq9 := HQ10.out
              go_wp2_with fail
              go_roundw
              case rel => exact ⟨i + 1, by omega, by go_num, Lib.hid (HSET.out _).drew⟩
              case measure => simp [intOf]; omega
            · obtain rfl : i = q := by omega
              clear hlt2
              generalize wr = u2 at hmi
              have a1 := (HAT.out _ hmi.out).2
              simp only [HT.out] at a1
              go_wp2_with fail
              go_loopw [99] (fun t99 wr => ∃ i : Nat, i ≤ t ∧ t99 = .int .i64 i ∧ Hid (Mq w4.heap.size w6.heap.size w7 (some ad) c6 T6 A5 k wr)) (fun t99 _ => t - (intOf t99).toNat)
              case atStart => exact ⟨0, by omega, rfl, hmi⟩
              case round =>
                obtain ⟨i2, hi2, rfl, hmv⟩ := hrel
                by_cases hlt4 : i2 < t
                · have a1 := (HAT.out _ hmv.out).2
                  simp only [HT.out] at a1
                  obtain ⟨gx, yv, hsa, d0, f0, hset⟩ := hmv.out.mark (k := i2) (z' := t) (by have := (hmv.out.spots _ HMEM.out).2; rw [HT.out] at this; exact this) hlt4
                  subst hsa
                  have HSET := Lib.hid hset
                  clear hset
                  have i20 : (i2 : Int) < t := by omega
                  go_upto_region 23 with fail
                  go_region
                  have hq9 := HQ10.out
                  go_wp2_with fail
                  go_roundw
                  case rel => exact ⟨i2 + 1, by omega, by go_num, Lib.hid (HSET.out _).drew⟩
                  case measure => simp [intOf]; omega
                · obtain rfl : i2 = t := by omega
                  go_wp2_with fail
                  go_roundw
                  case rel => exact ⟨j + 1, by omega, by go_num, hmv⟩
                  case measure => simp [intOf]; omega
        · obtain rfl : j = y := by omega
          generalize wr = u1 at hmj
          have KP := Lib.hid hmj.out.kp
          have D8 : Hid (Below w4.heap.size w4 u1) := Lib.hid (C7.out.trans (KP.out.below (fun b hb => .inl hb)))
          have B8 : Hid (Below w.heap.size w u1) := Lib.hid (below_then B4.out D8.out)
          have N8 := Lib.hid (And.intro (KP.out.mades K7.out.2.1) (KP.out.prow K7.out.2.2))
          have si := (slice_high R4.out.lies (m + 1) m c4 HLn.out (by omega) (by have := HR4.out.1; have := HLn.out; omega)).1
          have hq1 : (m : Int) < (m : Int) + 1 := by omega
          go_upto_region 27 with (go_at_call 17; refine (RR.out _ B8.out).mono ?_; rintro e w9 ⟨T9, A9, c9, t9, rfl, h9, p9, b9⟩; have K9 := Lib.hid (And.intro t9 (And.intro h9 p9)); have C9 := Lib.hid b9; clear t9 h9 p9 b9 RR)
          have D9 : Hid (Below w4.heap.size w4 w9) := Lib.hid (below_then D8.out C9.out)
          have B9 : Hid (Below w.heap.size w w9) := Lib.hid (below_then B8.out C9.out)
          have b0 := HB7.out _ D9.out
          have HX9 : Hid (T9.length = x7) := Lib.hid (by rw [← HX7.out, ← rds_len, K9.out.1, ← K7.out.1, rds_len])
          rw [HX9.out]
          have T4 := Lib.hid trivial
          have T5 := Lib.hid trivial
          have X48 : Hid (x7 * 48 ≤ 140737488351232) := Lib.hid (by have := HPL.out; have := HX7.out; rw [← rds_len, K7.out.1] at this; omega)
          go_wp2_with (first
            | (go_at_call 11; refine (same_any _ _ L _ _ _ _ _ HML.out HML.out (HBY.out _ D9.out) (HC.out _ B9.out).bys).mono ?_; rintro e w10 ⟨rfl, rfl⟩)
            | (have t := T4; go_at_call 16; refine (refSame_any A2 A T2 l n n c2 c _ (by rw [← HN.out, ← rds_len, K2.out.1, rds_len]) HN.out (K2.out.2.2.kept (below_then D4.out D9.out) (Nat.le_refl _)).lies (HA.out _ B9.out).1 ((K2.out.2.1.kept (below_then D4.out D9.out) (Nat.le_refl _)).ins (fun p hp => HY.out p (K2.out.1 ▸ hp))) (HA.out _ B9.out).2 HLN.out HLN.out).mono ?_; rintro e w11 ⟨rfl, k11, rfl⟩; rw [show decide (rds T2 = rds l) = true by simp [K2.out.1]]; have C11 : Hid (Below w9.heap.size w9 (w9.drewN k11)) := Lib.hid (below_drewN (Below.refl _ _) k11); clear T4 t)
            | (have t := T5; go_at_call 16; refine (refSame_any A7 A9 T7 T9 x7 x7 c7 c9 _ HX7.out HX9.out (N8.out.2.kept (below_then C9.out C11.out) (Nat.le_refl _)).lies (K9.out.2.2.kept C11.out (Nat.le_refl _)).lies ((N8.out.1.kept (below_then C9.out C11.out) (Nat.le_refl _)).ins (fun p hp => HPB.out p (K7.out.1 ▸ hp))) (K9.out.2.1.kept C11.out).ins X48.out X48.out).mono ?_; rintro e w12 ⟨rfl, k12, rfl⟩; rw [show decide (rds T7 = rds T9) = true by simp [K7.out.1, K9.out.1]]; clear T5 t))
          go_ret
          exact ⟨rfl, below_then B9.out (below_drewN (Below.refl _ _) _)⟩

end Go.Proofs.Ytimonpoeieenpaa
