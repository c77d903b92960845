/-
  TableTold: the walk of the law itself.
-/
import Derived.Test.YtmgggddnfeojmaaGreatJT27
set_option linter.unusedSimpArgs false
set_option linter.unusedVariables false
namespace Go.Proofs.YtmgggddnfeojmaaGreat
open Go.RowKit
open Go.Maps
/-- The answer of Get, as it is laid. -/
def LaidH (l : List En) (K : List Int) (s : Int) (t : Tm) (w0 : World) (xb : Nat) (y : En) (b : Bool) (er : Int) (W : World) : Prop := AnsH (ers l) K s y b er ∧ W.heap[xb]? = some (.cells #[.slice y.k.a y.k.l.length y.k.c, .int .i64 y.s, .bool y.d, .slice y.v.a y.v.l.length y.v.c] 48 (0, 0)) ∧ EIn W y ∧ TabAt W t ∧ Below w0.heap.size w0 W
theorem h_new {l : List En} {K : List Int} {s : Int} {t : Tm} {w0 w8 : World} {y : En} {b : Bool} {er : Int} (ha : AnsH (ers l) K s y b er) (he : EIn w8 y) (ht : TabAt w8 t) (h0 : Below w0.heap.size w0 w8) : LaidH l K s t w0 w8.heap.size y b er (w8.alloc (.cells #[.slice y.k.a y.k.l.length y.k.c, .int .i64 y.s, .bool y.d, .slice y.v.a y.v.l.length y.v.c] 48)) :=
  ⟨ha, heap_alloc_new w8 _, he.kept (below_new w8 _), ht.kept (below_new w8 _), h0.trans ((below_new w8 _).mono h0.size)⟩
theorem h_old {l : List En} {K : List Int} {s : Int} {t : Tm} {w0 w6 Wg w8 : World} {xb : Nat} {y : En} {b : Bool} {er : Int} {a0 a1 a2 a3 : Value} (ha : AnsH (ers l) K s y b er) (he : EIn w8 y) (hx : w8.heap[xb]? = some (.cells #[a0, a1, a2, a3] 48 (0, 0))) (hT : TabW (fun g => w6.heap.size ≤ g ∧ g < Wg.heap.size) w8 t) (hm : t.mb < w6.heap.size) (r1 : Row w8 Wg.heap.size y.k.a y.k.c y.k.l) (r2 : Row w8 Wg.heap.size y.v.a y.v.c y.v.l) (hlo : w6.heap.size ≤ xb) (hhi : xb < Wg.heap.size) (h6 : w0.heap.size ≤ w6.heap.size) (h0 : Below w0.heap.size w0 w8) :
    LaidH l K s t w0 xb y b er ((((w8.setCell ⟨xb, 0, none⟩ (.slice y.k.a y.k.l.length y.k.c)).setCell ⟨xb, 1, none⟩ (.int .i64 y.s)).setCell ⟨xb, 2, none⟩ (.bool y.d)).setCell ⟨xb, 3, none⟩ (.slice y.v.a y.v.l.length y.v.c)) := by
  have kp := set_four_kp (Kp.refl (fun j => j ≠ xb) w8) xb (.slice y.k.a y.k.l.length y.k.c) (.int .i64 y.s) (.bool y.d) (.slice y.v.a y.v.l.length y.v.c) (by simp)
  have k1 := own_kp r1 kp (fun ad h => by have := (own_in r1 ad h).1; omega)
  have k2 := own_kp r2 kp (fun ad h => by have := (own_in r2 ad h).1; omega)
  exact ⟨ha, set_four hx, ⟨Row.in_ k1 he.1.byt, Row.in_ k2 he.2.byt⟩, (hT.turn (S' := fun g => w6.heap.size ≤ g ∧ g < Wg.heap.size) (fun g o ho hn => ⟨(kp.block g (fun e => hn (by omega))).trans ho, hn⟩) (fun h => by omega)).at_, h0.trans (kp.below (fun k hk => by omega))⟩
set_option maxRecDepth 100000 in
set_option maxHeartbeats 8000000 in
theorem lawTold (A : Option Addr) (l : List En) (n c : Nat) (a0 a1 : Int) (ct : Bool) (w : World) (h : LIn w A l n c) :
    Calls Tryz.prog 5 #[.slice A n c, .agg #[.int .i64 a0, .int .i64 a1], .bool ct] w fun e w' => e = .returned (.bool true) ∧ Below w.heap.size w w' := by
  have HH := Lib.hid h
  obtain ⟨od, hod⟩ : ∃ od, decide (OrdL (ers l)) = od := ⟨_, rfl⟩
  have HOD := Lib.hid hod
  have hln := h.len
  have e116 : Hid (({ data := #[116] } : ByteArray) = sT) := Lib.hid rfl
  by_cases he : n = 0
  · have d3 : ((n : Int) == 0) = true := by simpa using he
    clear he hln hod h
    go_enter Tryz.func5, Tryz.ntmps5
    go_upto_region 1 with fail
    obtain ⟨wb, hwb⟩ : ∃ wb, w.alloc (.cells #[.int .i64 a0, .int .i64 a1] 62) = wb := ⟨_, rfl⟩
    have BX : Hid (Below w.heap.size w wb) := Lib.hid (hwb ▸ below_new w _)
    have HBX : Hid (∀ W, Below wb.heap.size wb W → W.cell? ⟨w.heap.size, 0, none⟩ = some (.int .i64 a0) ∧ W.cell? ⟨w.heap.size, 1, none⟩ = some (.int .i64 a1)) := Lib.hid (fun W hb => by
      have := obj_kept (by rw [← hwb]; exact heap_alloc_new w (.cells #[.int .i64 a0, .int .i64 a1] 62)) hb (Nat.le_refl _)
      refine ⟨?_, ?_⟩ <;> simp [World.cell?, this])
    rw [hwb]
    clear hwb
    go_wp2_with (go_at_call 9; refine (wakes_any _).mono ?_; rintro e w0 ⟨rfl, hb⟩; have B0 := Lib.hid (below_then BX.out hb); clear hb)
    go_ret
    exact ⟨rfl, B0.out⟩
  have d3 : ((n : Int) == 0) = false := by simpa using he
  have hne : ers l ≠ [] := fun e => he (by rw [← hln, ← ers_len, e]; rfl)
  cases od
  · clear he hln hod h hne
    go_enter Tryz.func5, Tryz.ntmps5
    go_upto_region 1 with fail
    obtain ⟨wb, hwb⟩ : ∃ wb, w.alloc (.cells #[.int .i64 a0, .int .i64 a1] 62) = wb := ⟨_, rfl⟩
    have BX : Hid (Below w.heap.size w wb) := Lib.hid (hwb ▸ below_new w _)
    have HBX : Hid (∀ W, Below wb.heap.size wb W → W.cell? ⟨w.heap.size, 0, none⟩ = some (.int .i64 a0) ∧ W.cell? ⟨w.heap.size, 1, none⟩ = some (.int .i64 a1)) := Lib.hid (fun W hb => by
      have := obj_kept (by rw [← hwb]; exact heap_alloc_new w (.cells #[.int .i64 a0, .int .i64 a1] 62)) hb (Nat.le_refl _)
      refine ⟨?_, ?_⟩ <;> simp [World.cell?, this])
    rw [hwb]
    clear hwb
    go_wp2_with (first
      | (go_at_call 9; refine (wakes_any _).mono ?_; rintro e w0 ⟨rfl, hb⟩; have B0 := Lib.hid (below_then BX.out hb); clear hb)
      | (go_at_call 14; refine (ordered_in (HH.out.kept B0.out)).mono ?_; rw [HOD.out]; rintro e w5 ⟨rfl, hb⟩; have B5 := Lib.hid (below_then B0.out hb); clear hb))
    go_ret
    exact ⟨rfl, B5.out⟩
  have ho : OrdL (ers l) := of_decide_eq_true hod
  have HO := Lib.hid ho
  have HNE := Lib.hid hne
  obtain ⟨size, hsz, hs1, hs2⟩ := way_four a1
  have HSZ := Lib.hid hsz
  have HS12 : Hid (1 ≤ size ∧ size ≤ 1024) := Lib.hid ⟨hs1, by omega⟩
  have hl9 : (ers l).length ≤ 9000000000000000000 := by rw [ers_len, h.len]; have := h.small.1; omega
  obtain ⟨tb, ht, -⟩ := whole_file (l := ers l) (size := size) ho hne h.byl hs1 (by omega) hl9
  have hF9 := file_few (k := size) (by have := h.bulk; rw [ers_len, h.len]; exact this) ho hne h.byl hs1 (by omega)
  have hst := told_state ho hne h.byl hs1 (by omega) hl9
  obtain ⟨F, hF⟩ : ∃ F, fileE (ers l) size = F := ⟨_, rfl⟩
  have HF := Lib.hid hF
  rw [hF] at ht hF9 hst
  obtain ⟨fl, hfl⟩ : ∃ fl, F.length = fl := ⟨_, rfl⟩
  have hfl0 : 0 < fl := by
    rcases Nat.eq_zero_or_pos fl with e | e
    · rw [e] at hfl
      rw [List.eq_nil_of_length_eq_zero hfl, tableP_nil] at ht
      cases ht
    · exact e
  rw [hfl] at hF9
  obtain ⟨k, hk, hkf⟩ := way_place a0 fl hfl0 hF9
  have HFL := Lib.hid hfl
  have HK := Lib.hid hk
  have HKF := Lib.hid (And.intro hkf hF9)
  have HST := Lib.hid hst
  have d4 : ((fl : Int) == 0) = false := by simp; omega
  clear he hln hod h hne ho hsz hs1 hs2 hl9 ht hF9 hst hF hfl hfl0 hk hkf
  go_enter Tryz.func5, Tryz.ntmps5
  go_upto_region 1 with fail
  obtain ⟨wb, hwb⟩ : ∃ wb, w.alloc (.cells #[.int .i64 a0, .int .i64 a1] 62) = wb := ⟨_, rfl⟩
  have BX : Hid (Below w.heap.size w wb) := Lib.hid (hwb ▸ below_new w _)
  have HBX : Hid (∀ W, Below wb.heap.size wb W → W.cell? ⟨w.heap.size, 0, none⟩ = some (.int .i64 a0) ∧ W.cell? ⟨w.heap.size, 1, none⟩ = some (.int .i64 a1)) := Lib.hid (fun W hb => by
    have := obj_kept (by rw [← hwb]; exact heap_alloc_new w (.cells #[.int .i64 a0, .int .i64 a1] 62)) hb (Nat.le_refl _)
    refine ⟨?_, ?_⟩ <;> simp [World.cell?, this])
  rw [hwb]
  clear hwb
  go_upto_region 5 with (first
    | (go_at_call 9; refine (wakes_any _).mono ?_; rintro e w0 ⟨rfl, hb⟩; have B0 := Lib.hid (below_then BX.out hb); have Y0 := Lib.hid hb; clear hb)
    | (go_at_call 14; refine (ordered_in (HH.out.kept B0.out)).mono ?_; rw [HOD.out]; rintro e w5 ⟨rfl, hb⟩; have B5 := Lib.hid (below_then B0.out hb); have Y5 := Lib.hid (Y0.out.trans (hb.mono Y0.out.size)); clear hb))
  obtain ⟨y0, y1⟩ := HBX.out w5 Y5.out
  go_upto_region 9 with (first
    | (go_at_call 22; rw [HSZ.out]; refine (made_any A l n c size w5 (HH.out.kept B5.out) HO.out HNE.out HS12.out.1 HS12.out.2).mono ?_; rintro e w6 ⟨t, g, p, rfl, -, -, -, hps, hvm, hb, -⟩; rw [HF.out] at hvm; have E6 : Hid (PSt w6 w5.heap.size g p ∧ p.vm = loneV sT F F.length ∧ Below w.heap.size w w6 ∧ Below wb.heap.size wb w6) := Lib.hid ⟨hps, hvm, below_then B5.out hb, Y5.out.trans (hb.mono Y5.out.size)⟩; clear hps hvm hb y0 y1)
    | (go_at_call 16; refine (dump_lone E6.out.1 E6.out.2.1 (by have := HFL.out; have := HKF.out; omega)).mono ?_; rintro e w7 ⟨ad, dc, qa, qc, rfl, hl7, hr7, hb⟩; rw [HFL.out] at hl7; have R7 := Lib.hid hr7; have B7 : Hid (Below w.heap.size w w7) := Lib.hid (E6.out.2.2.1.trans (hb.mono E6.out.2.2.1.size)); have Y7 : Hid (Below wb.heap.size wb w7) := Lib.hid (E6.out.2.2.2.trans (hb.mono E6.out.2.2.2.size)); have L7 := Lib.hid hl7; clear hl7 hr7 hb))
  obtain ⟨qad, rfl⟩ : ∃ qad, qa = some qad := by
    rcases R7.out.lies with e | ⟨ad', e, -⟩
    · have h1 := HFL.out
      have h2 := HKF.out
      rw [e, List.length_nil] at h1
      omega
    · exact ⟨ad', e⟩
  have x1 : w7.cell? ⟨ad.block, ad.off + 1, none⟩ = some (.slice (some qad) fl qc) := by
    rcases L7.out with e | ⟨ad', e, q⟩
    · cases e
    · injection e with e
      subst e
      exact q 1 _ rfl
  obtain ⟨y0, y1⟩ := HBX.out w7 Y7.out
  have HIN : Hid (In w7 (some qad) F fl qc) := Lib.hid (by
    have h1 := fileE_byt HO.out HNE.out HH.out.byl (by rw [ers_len, HH.out.len]; have := HH.out.small.1; omega) HS12.out.1 HS12.out.2
    rw [HF.out] at h1
    have := R7.out.in_ h1
    rwa [HFL.out] at this)
  have hz : ¬ IntKind.u64.wrap (fl : Int) = 0 := by
    have := HKF.out
    simp [IntKind.wrap, IntKind.bits, IntKind.signed]
    omega
  go_upto_region 13 with fail
  clear hz
  rw [HK.out]
  cases ct
  · obtain ⟨qg, x, e, hx, cx, fx, hset⟩ := row_at R7.out (k := k) (by rw [HFL.out]; exact HKF.out.1)
    injection e with e
    subst e
    have HSET := Lib.hid hset
    have HX := Lib.hid hx
    have i0 : (k : Int) < fl := by have := HKF.out; omega
    obtain ⟨yb, hyb, hyb1, hyb2⟩ := way_byte' a1
    have HYB := Lib.hid hyb
    have HYB2 := Lib.hid (And.intro hyb1 hyb2)
    clear hset hx hyb hyb1 hyb2
    go_upto_region 15 with fail
    go_region
    go_upto_region 16 with fail
    rw [HYB.out]
    obtain ⟨v, hv⟩ : ∃ v, bits .xor .u8 x yb = v := ⟨_, rfl⟩
    have hxb := HIN.out.byt x (List.mem_of_getElem? HX.out)
    have hvv := turned_by x yb (by omega) (by omega) HYB2.out.1 HYB2.out.2
    rw [hv] at hvv ⊢
    have hqg : w6.heap.size ≤ qg := (own_in R7.out _ rfl).1
    have B8 : Hid (Below w.heap.size w (w7.setCell ⟨qg, k, none⟩ (.int .u8 v)).drew) := Lib.hid (((Kp.of_below B7.out).set qg k (.int .u8 v) (by have := E6.out.2.2.1.size; omega)).below (fun _ hk => hk)).drew
    have R8 : Hid (Row (w7.setCell ⟨qg, k, none⟩ (.int .u8 v)).drew w6.heap.size (some ⟨qg, 0, none⟩) qc (F.set k v)) := Lib.hid (Row.kept (HSET.out v) (Below.refl _ _).drew (Nat.le_refl _))
    obtain ⟨w8, hw8⟩ : ∃ w8, (w7.setCell ⟨qg, k, none⟩ (.int .u8 v)).drew = w8 := ⟨_, rfl⟩
    rw [hw8] at B8 R8 ⊢
    obtain ⟨D, hD⟩ : ∃ D, F.set k v = D := ⟨_, rfl⟩
    have HDL : Hid (D.length = fl) := Lib.hid (by rw [← hD, List.length_set]; exact HFL.out)
    have HDB : Hid (Byt D) := Lib.hid (fun z hz => by
      rw [← hD] at hz
      rcases List.mem_or_eq_of_mem_set hz with q | q
      · exact HIN.out.byt z q
      · rw [q]
        omega)
    rw [hD] at R8
    have hst := HST.out.2 k v (by rw [HFL.out]; exact HKF.out.1) (by omega) (by rw [HX.out]; intro q; injection q with q; omega)
    rw [hD] at hst
    have HI8 : Hid (In w8 (some ⟨qg, 0, none⟩) D fl qc) := Lib.hid (by have := R8.out.in_ HDB.out; rwa [HDL.out] at this)
    clear hv hxb hvv hqg hw8 hD cx fx y0 y1 x1 i0
    go_upto_region 19 with (first
      | (go_at_call 11; refine (calm_any _).mono ?_; rintro e w9 ⟨rfl, hb⟩; have B9 := Lib.hid hb; clear hb)
      | (go_at_call 27; refine (of_t w w9 w8.heap.size (some ⟨qg, 0, none⟩) D fl qc HDL.out HKF.out.2 (HI8.out.kept (below_then (below_new w8 _) B9.out)) (obj_kept (heap_alloc_new w8 _) B9.out (Nat.le_refl _)) (B8.out.trans ((below_then (below_new w8 _) B9.out).mono B8.out.size))).mono ?_; rintro e w10 ⟨g2, p2, rfl, s9, v9, hb⟩; have E10 : Hid (PSt w10 w.heap.size g2 p2 ∧ p2.vm = loneV sT D fl ∧ Below w.heap.size w w10) := Lib.hid ⟨s9, v9, hb⟩; clear s9 v9 hb))
    rcases hst with hst | ⟨tb2, ht2, hH2⟩
    · have HNO : Hid (NoT (D, 0) 11) := Lib.hid (.inr ⟨rfl, hst, rfl⟩)
      clear hst
      go_wp2_with (go_at_call 17; rw [e116.out]; refine (open_none E10.out.1 E10.out.2.1 (fits_lone (by decide) (by have := HDL.out; have := HKF.out; omega)) (short_lone (by have := HDL.out; have := HKF.out; omega)) (read_lone _ _ okT) HNO.out).mono ?_; rintro e w11 ⟨rfl, hb⟩; have E11 : Hid (Below w.heap.size w w11) := Lib.hid (E10.out.2.2.trans (hb.mono E10.out.2.2.size)); clear hb)
      go_ret
      exact ⟨rfl, E11.out⟩
    have HT2 := Lib.hid ht2
    have HH2 := Lib.hid hH2
    clear ht2 hH2
    go_upto_region 22 with (go_at_call 17; rw [e116.out]; refine (show Calls _ _ _ _ (OpenE w10 (D, 0)) from by have := open_any w.heap.size g2 p2 _ sT w10 E10.out.1 E10.out.2.1 (by decide) (fits_lone (by decide) (by have := HDL.out; have := HKF.out; omega)) (short_lone (by have := HDL.out; have := HKF.out; omega)); rwa [read_lone _ _ okT] at this).mono ?_; intro e w11 h11; obtain ⟨t2, hts, rfl, hta, hmb, hb⟩ := opened_some HT2.out h11; have E11 : Hid (t2.tb = tb2 ∧ TabAt w11 t2 ∧ w10.heap.size ≤ t2.mb ∧ Below w.heap.size w w11) := Lib.hid ⟨hts, hta, hmb, E10.out.2.2.trans (hb.mono E10.out.2.2.size)⟩; clear h11 hts hta hmb hb)
    obtain ⟨m, hm, hall⟩ := all_hurt (HH.out.kept E11.out.2.2.2) E11.out.2.1 (by rw [E11.out.1]; exact HH2.out)
    have HALL := Lib.hid hall
    have HM := Lib.hid hm
    clear hm hall
    go_upto_region 23 with (go_at_call 18; refine HALL.out.mono ?_; rintro e w12 ⟨l6, A6, c6, he6, hn6, rfl, r6, m6, t6, ta6⟩; have E12 : Hid (ers l6 = (ers l).take m ∧ l6.length = m ∧ Lies w12 A6 (evals l6) ∧ EIns w12 l6 ∧ TabAt w12 t2 ∧ Below w.heap.size w w12) := Lib.hid ⟨he6, hn6, r6, m6, ta6, E11.out.2.2.2.trans (t6.below (by have := E10.out.2.2.size; have := E11.out.2.2.1; omega) E11.out.2.2.2.size)⟩; clear he6 hn6 r6 m6 t6 ta6)
    have hmin : min (m : Int) (n : Int) = m := by have := HM.out; omega
    have hnm : ((m : Int) == n) = false := by have := HM.out; simp; omega
    have sh := slice_highE A m n c (by have := HM.out; omega) HH.out.cap
    go_upto_region 25 with (go_at_call 20; refine (refSame_any A6 A l6 (l.take m) m m c6 c w12 E12.out.2.1 (by rw [List.length_take, HH.out.len]; have := HM.out; omega) E12.out.2.2.1 (liesE_take (HH.out.kept E12.out.2.2.2.2.2).lies m) E12.out.2.2.2.1 (fun q hq => (HH.out.kept E12.out.2.2.2.2.2).ins q (List.mem_of_mem_take hq)) (by have := HH.out.small.1; have := HM.out; omega)).mono ?_; rw [decide_eq_true (show ers l6 = ers (l.take m) by rw [E12.out.1, ers_take])]; rintro e w13 ⟨rfl, hb⟩; have B13 := Lib.hid hb; clear hb)
    clear hmin hnm sh
    go_wp2_with fail
    go_loopw [150] (fun t150 wr => ∃ k : Nat, k ≤ n ∧ t150 = .int .i64 k ∧ Hid (TabAt wr t2 ∧ Below w.heap.size w wr)) (fun t150 _ => n - (intOf t150).toNat)
    case atStart => exact ⟨0, by omega, rfl, Lib.hid ⟨E12.out.2.2.2.2.1.kept B13.out, E12.out.2.2.2.2.2.trans (B13.out.mono E12.out.2.2.2.2.2.size)⟩⟩
    case round =>
      obtain ⟨i, hi, rfl, hr⟩ := hrel
      have hn9 : n ≤ 209715 := HH.out.small.1
      by_cases hlt : i < n
      · have hq := List.getElem?_eq_getElem (l := l) (i := i) (by have := HH.out.len; omega)
        generalize l[i]'(by have := HH.out.len; omega) = x at hq
        obtain ⟨ad2, rfl, -⟩ := lies_entry HH.out.lies hq
        obtain ⟨xn, hxn⟩ : ∃ m, x.k.l.length = m := ⟨_, rfl⟩
        obtain ⟨xv, hxv⟩ : ∃ m, x.v.l.length = m := ⟨_, rfl⟩
        have HA := Lib.hid (fun (W : World) (hb : Below w.heap.size w W) => lies_entry_at (HH.out.kept hb).lies hq)
        unfold AtE at HA
        rw [hxn, hxv] at HA
        have HXN := Lib.hid hxn
        have HXV := Lib.hid hxv
        have HMEM : Hid (x ∈ l) := Lib.hid (List.mem_of_getElem? hq)
        have HSELF : Hid (getE (ers l) x.k.l x.s = some x.rd) := Lib.hid (getE_self HO.out (ers_get hq))
        have k0 : (i : Int) < n := by omega
        have HXL : Hid (x.k.l.length ≤ 1048576) := Lib.hid (HH.out.small.2 x (List.mem_of_getElem? hq)).1
        have HC : Hid (∀ W, Below w.heap.size w W → (W.cell? (ad2.add (i * 4)) = some (.slice x.k.a xn x.k.c) ∧ W.cell? ⟨(ad2.add (i * 4)).block, (ad2.add (i * 4)).off + 1, none⟩ = some (.int .i64 x.s))) := Lib.hid (fun W hb => ⟨(HA.out W hb).1, (HA.out W hb).2.1⟩)
        have HKY : Hid (∀ W, Below w.heap.size w W → In W x.k.a x.k.l x.k.l.length x.k.c) := Lib.hid (fun W hb => ((HH.out.kept hb).ins x HMEM.out).1)
        have BB := Lib.hid (Below.refl wr.heap.size wr)
        have BW : Hid (Below w.heap.size w wr) := Lib.hid hr.out.2
        have HTR : Hid (TabAt wr t2) := Lib.hid hr.out.1
        have HM9 : Hid (t2.mb < wr.heap.size) := Lib.hid (by obtain ⟨es, ck, hm⟩ := HTR.out.mapAt; exact (Array.getElem?_eq_some_iff.1 hm).1)
        have HM6 : Hid (w.heap.size ≤ t2.mb) := Lib.hid (by have := E10.out.2.2.size; have := E11.out.2.2.1; omega)
        have HTH : Hid (Hurt (ers l) t2.tb) := Lib.hid (by rw [E11.out.1]; exact HH2.out)
        have HSM : Hid (l.length ≤ 1048576) := Lib.hid (by have := HH.out.small.1; have := HH.out.len; omega)
        clear hq hxn hxv hr
        go_upto_region 28 with fail
        go_cut [19, 20, 21] from 153 to 170 (fun t19 t20 t21 wx => ∃ (xb : Nat) (y : En) (bb : Bool) (er : Int), t19 = .pointer (some ⟨xb, 0, none⟩) ∧ t20 = .bool bb ∧ t21 = .int .i64 er ∧ Hid (LaidH l x.k.l x.s t2 w xb y bb er wx))
        case first =>
          have N6 : Hid ((ad2.add (i * 4)).block < w.heap.size) := Lib.hid (by obtain ⟨o, ho, -⟩ := cell_block (HC.out w (Below.refl _ _)).1; exact (Array.getElem?_eq_some_iff.1 ho).1)
          have N6r : Hid ((ad2.add (i * 4)).block < wr.heap.size) := Lib.hid (Nat.lt_of_lt_of_le N6.out BW.out.size)
          have HC1 : Hid (∀ W, Below wr.heap.size wr W → W.cell? (ad2.add (i * 4)) = some (.slice x.k.a xn x.k.c) ∧ W.cell? ⟨(ad2.add (i * 4)).block, (ad2.add (i * 4)).off + 1, none⟩ = some (.int .i64 x.s)) := Lib.hid (fun W hb => HC.out W (BW.out.trans (hb.mono BW.out.size)))
          have HKB : Hid (∀ W, Below wr.heap.size wr W → Bys W x.k.a x.k.l) := Lib.hid (fun W hb => (HKY.out W (BW.out.trans (hb.mono BW.out.size))).bys)
          have HXI : Hid (Byt x.k.l) := Lib.hid (HKY.out w (Below.refl _ _)).byt
          have HBY : Hid (ByL (ers l)) := Lib.hid HH.out.byl
          go_region_held3 (fun W => W.cell? (ad2.add (i * 4)) = some (.slice x.k.a xn x.k.c) ∧ W.cell? ⟨(ad2.add (i * 4)).block, (ad2.add (i * 4)).off + 1, none⟩ = some (.int .i64 x.s)) (first | (refine HC.out _ ?_; (repeat (first | with_reducible exact Y8.out | with_reducible refine Below.drew ?_ | with_reducible refine below_al ?_ _)); done) | (refine ⟨?_, ?_⟩ <;> (rw [cell_far (by have := N6r.out; have := BB.out.size; first | (simp; omega) | (simp only [ne_eq]; omega)), cell_far (by have := N6r.out; have := BB.out.size; first | (simp; omega) | (simp only [ne_eq]; omega)), cell_far (by have := N6r.out; have := BB.out.size; first | (simp; omega) | (simp only [ne_eq]; omega)), cell_far (by have := N6r.out; have := BB.out.size; first | (simp; omega) | (simp only [ne_eq]; omega))]; have h := HC.out _ Y8.out; first | exact h.1 | exact h.2)) | exact HC1.out _ BB.out | (refine HC1.out _ ?_; (repeat (first | with_reducible exact BB.out | with_reducible exact Below.refl _ _ | with_reducible refine Below.drew ?_ | with_reducible refine below_al ?_ _)); done) | go_keep) (first
            | (refine step_append_zero _ (by rfl) (.tmp 155) (.tmp 160) (by rfl) _ x.k.l x.k.a xn x.k.c rfl rfl HXN.out ?_ ?_ ?_ ?_; (repeat (first | ((with_reducible refine Lit0.new _ _ ?_); first | (with_reducible rfl) | (focus (simp only [World.size_alloc]; done))) | with_reducible refine Lit0.drew ?_ | with_reducible refine Lit0.alloc ?_ _)); (refine HKB.out _ ?_; (repeat (first | with_reducible exact BB.out | with_reducible exact Below.refl _ _ | with_reducible refine Below.drew ?_ | with_reducible refine below_al ?_ _))); (have := HXL.out; have := HXN.out; omega); intro A7 c7 w7 r7 b7; have R7 : Hid (Row w7 wr.heap.size A7 c7 x.k.l) := Lib.hid (r7.mono (by first | omega | (simp; omega) | (simp only [drew_size, World.size_alloc]; omega))); have BB : Hid (Below wr.heap.size wr w7) := Lib.hid (below_then (by (repeat (first | with_reducible exact BB.out | with_reducible exact Below.refl _ _ | with_reducible refine Below.drew ?_ | with_reducible refine below_al ?_ _))) b7); have LX := Lib.hid (fun g o (h : _ = some o) => obj_kept (g := g) h b7 (Nat.le_refl _)); clear r7 b7)
            | (go_at_call 23; refine (get_hurt l t2 A7 x.k.l xn c7 x.s wr _ HTR.out (by (repeat (first | with_reducible exact BB.out | with_reducible refine Below.drew ?_ | with_reducible refine below_al ?_ _))) HTH.out HSM.out HBY.out HXN.out (R7.out.kept (C := w7.heap.size) (by (repeat (first | with_reducible exact Below.refl _ _ | with_reducible refine Below.drew ?_ | with_reducible refine below_al ?_ _))) (Nat.le_refl _)) HXI.out w BW.out HM6.out).mono ?_; rintro e w8 ⟨y, bb, er, ha, rfl, hE, r1, r2, hTw, hT, y8⟩; have Y8 := Lib.hid y8; have HA8 := Lib.hid ha; have HE := Lib.hid hE; have HR12 := Lib.hid (And.intro r1 r2); have HTW := Lib.hid hTw; have HT := Lib.hid hT; (first
              | (have ho := heap_alloc_new w7 (.cells #[.slice none 0 0, .int .i64 0, .bool false, .slice none 0 0] 48); have hx := hTw.obj ho (by have := HM9.out; have := BB.out.size; omega); have HHI := Lib.hid (Array.getElem?_eq_some_iff.1 ho).1; have HX0 := Lib.hid hx; clear ho; obtain ⟨⟨y0, y1, y2, y3⟩, f0, f1, f2, f3⟩ := four_facts hx; clear hx)
              | (have ho := LX.out (wr.heap.size + 1) (.cells #[.slice none 0 0, .int .i64 0, .bool false, .slice none 0 0] 48 (0, 0)) (by have h := heap_alloc_new (wr.alloc (.cells #[] 5)) (.cells #[.slice none 0 0, .int .i64 0, .bool false, .slice none 0 0] 48); rw [World.size_alloc] at h; exact h); have hx := hTw.obj ho (by have := HM9.out; have := BB.out.size; omega); have HHI := Lib.hid (Array.getElem?_eq_some_iff.1 ho).1; have HX0 := Lib.hid hx; clear ho; obtain ⟨⟨y0, y1, y2, y3⟩, f0, f1, f2, f3⟩ := four_facts hx; clear hx)
              | (have ho := LX.out wr.heap.size (.cells #[.slice none 0 0, .int .i64 0, .bool false, .slice none 0 0] 48 (0, 0)) (by have h := obj_kept (heap_alloc_new wr (.cells #[.slice none 0 0, .int .i64 0, .bool false, .slice none 0 0] 48)) (below_new (wr.alloc (.cells #[.slice none 0 0, .int .i64 0, .bool false, .slice none 0 0] 48)) (.cells #[] 5)) (Nat.le_refl _); exact h); have hx := hTw.obj ho (by have := HM9.out; have := BB.out.size; omega); have HHI := Lib.hid (Array.getElem?_eq_some_iff.1 ho).1; have HX0 := Lib.hid hx; clear ho; obtain ⟨⟨y0, y1, y2, y3⟩, f0, f1, f2, f3⟩ := four_facts hx; clear hx)
              | skip); clear ha hE r1 r2 hTw hT y8))
          all_goals
            go_wp2_with fail
            go_meet
            exact ⟨_, y, bb, er, rfl, rfl, rfl, Lib.hid (by first | exact h_new HA8.out HE.out HT.out.at_ Y8.out | exact h_old HA8.out HE.out HX0.out HT.out HM9.out HR12.out.1 HR12.out.2 (by have := BB.out.size; omega) HHI.out BW.out.size Y8.out)⟩
        case rest =>
          obtain ⟨xb, y, bb, er, rfl, rfl, rfl, HX⟩ := hcut
          have BC : Hid (Below w.heap.size w wc) := Lib.hid HX.out.2.2.2.2
          obtain ⟨⟨c0, c1, c2, c3⟩, -⟩ := four_facts HX.out.2.1
          obtain ⟨z0, z1, z2, z3⟩ := HA.out wc BC.out
          have hans := HX.out.1
          clear BB BW
          have HS8 : Hid (∀ W, Below wc.heap.size wc W → (W.cell? ⟨xb, 0, none⟩ = some (.slice y.k.a y.k.l.length y.k.c) ∧ W.cell? ⟨xb, 1, none⟩ = some (.int .i64 y.s) ∧ W.cell? ⟨xb, 2, none⟩ = some (.bool y.d) ∧ W.cell? ⟨xb, 3, none⟩ = some (.slice y.v.a y.v.l.length y.v.c)) ∧ (W.cell? (ad2.add (i * 4)) = some (.slice x.k.a xn x.k.c) ∧ W.cell? ⟨(ad2.add (i * 4)).block, (ad2.add (i * 4)).off + 1, none⟩ = some (.int .i64 x.s) ∧ W.cell? ⟨(ad2.add (i * 4)).block, (ad2.add (i * 4)).off + 2, none⟩ = some (.bool x.d) ∧ W.cell? ⟨(ad2.add (i * 4)).block, (ad2.add (i * 4)).off + 3, none⟩ = some (.slice x.v.a xv x.v.c))) := Lib.hid (fun W hb => ⟨(four_facts (obj_kept HX.out.2.1 hb (Nat.le_refl _))).1, HA.out W (BC.out.trans (hb.mono BC.out.size))⟩)
          have HTC : Hid (TabAt wc t2) := Lib.hid HX.out.2.2.2.1
          have CB := Lib.hid (Below.refl wc.heap.size wc)
          clear c0 c1 c2 c3 z0 z1 z2 z3
          rcases hans with ⟨rfl, hw⟩ | ⟨rfl, rfl, rfl⟩
          · have hrd : bb = true ∧ y.rd = x.rd := by
              rcases hw with ⟨q1, q2⟩ | ⟨-, -, q3⟩
              · rw [HSELF.out] at q2
                injection q2 with q2
                exact ⟨q1, q2.symm⟩
              · rw [HSELF.out] at q3
                cases q3
            obtain ⟨rfl, hrd⟩ := hrd
            have HSO : Hid (∀ W, Below wc.heap.size wc W → Calls Tryz.prog 25 #[.agg #[.slice y.k.a y.k.l.length y.k.c, .int .i64 y.s, .bool y.d, .slice y.v.a y.v.l.length y.v.c], .agg #[.slice x.k.a xn x.k.c, .int .i64 x.s, .bool x.d, .slice x.v.a xv x.v.c]] W fun e w' => e = .returned (.bool true) ∧ Below W.heap.size W w') := Lib.hid (fun W hb => by
              have := refSameOne_any y x W (HX.out.2.2.1.kept hb) ((HH.out.kept (BC.out.trans (hb.mono BC.out.size))).ins x HMEM.out)
              rw [decide_eq_true hrd, En.val_eq, En.val_eq, HXN.out, HXV.out] at this
              exact this)
            clear hrd hw
            go_upto_region 29 with fail
            refine wp_region_held (S := fun W => (W.cell? ⟨xb, 0, none⟩ = some (.slice y.k.a y.k.l.length y.k.c) ∧ W.cell? ⟨xb, 1, none⟩ = some (.int .i64 y.s) ∧ W.cell? ⟨xb, 2, none⟩ = some (.bool y.d) ∧ W.cell? ⟨xb, 3, none⟩ = some (.slice y.v.a y.v.l.length y.v.c)) ∧ (W.cell? (ad2.add (i * 4)) = some (.slice x.k.a xn x.k.c) ∧ W.cell? ⟨(ad2.add (i * 4)).block, (ad2.add (i * 4)).off + 1, none⟩ = some (.int .i64 x.s) ∧ W.cell? ⟨(ad2.add (i * 4)).block, (ad2.add (i * 4)).off + 2, none⟩ = some (.bool x.d) ∧ W.cell? ⟨(ad2.add (i * 4)).block, (ad2.add (i * 4)).off + 3, none⟩ = some (.slice x.v.a xv x.v.c))) (by kernel_rfl) ?_
            change wpAnyH _ _ _ _ _ _ _ _ (World.drew _)
            have s0 := HS8.out _ CB.out.drew
            refine wpAnyH_take (i := 0) (v := .int .i64 0) rfl (by kernel_rfl) (by kernel_rfl) (by kernel_rfl) (fun _ _ _ h => h) (Or.inl ⟨by first | kernel_rfl | rfl, fun _ hS => by go_simp⟩) s0 ?_
            try simp only [Act.put, List.getElem_toArray, List.getElem_cons_zero, List.getElem_cons_succ, List.setIfInBounds_toArray, List.set_cons_zero, List.set_cons_succ]
            refine wpAnyH_take (i := 1) (v := .bool true) rfl (by kernel_rfl) (by kernel_rfl) (by kernel_rfl) (fun _ _ _ h => h) (Or.inl ⟨by first | kernel_rfl | rfl, fun _ hS => by go_simp⟩) s0 ?_
            try simp only [Act.put, List.getElem_toArray, List.getElem_cons_zero, List.getElem_cons_succ, List.setIfInBounds_toArray, List.set_cons_zero, List.set_cons_succ]
            refine wpAnyH_take (i := 2) (v := .bool true) rfl (by kernel_rfl) (by kernel_rfl) (by kernel_rfl) (fun _ _ _ h => h) (Or.inl ⟨by first | kernel_rfl | rfl, fun _ hS => by go_simp⟩) s0 ?_
            try simp only [Act.put, List.getElem_toArray, List.getElem_cons_zero, List.getElem_cons_succ, List.setIfInBounds_toArray, List.set_cons_zero, List.set_cons_succ]
            refine wpAnyH_take (i := 3) (v := .bool true) rfl (by kernel_rfl) (by kernel_rfl) (by kernel_rfl) (fun _ _ _ h => h) (Or.inl ⟨by first | kernel_rfl | rfl, fun _ hS => by go_simp⟩) s0 ?_
            try simp only [Act.put, List.getElem_toArray, List.getElem_cons_zero, List.getElem_cons_succ, List.setIfInBounds_toArray, List.set_cons_zero, List.set_cons_succ]
            refine wpAnyH_take (i := 4) (v := .bool false) rfl (by kernel_rfl) (by kernel_rfl) (by kernel_rfl) (fun _ _ _ h => h) (Or.inl ⟨by first | kernel_rfl | rfl, fun _ hS => by go_simp⟩) s0 ?_
            try simp only [Act.put, List.getElem_toArray, List.getElem_cons_zero, List.getElem_cons_succ, List.setIfInBounds_toArray, List.set_cons_zero, List.set_cons_succ]
            refine wpAnyH_take (i := 5) (v := .bool false) rfl (by kernel_rfl) (by kernel_rfl) (by kernel_rfl) (fun _ _ _ h => h) (Or.inl ⟨by first | kernel_rfl | rfl, fun _ hS => by go_simp⟩) s0 ?_
            try simp only [Act.put, List.getElem_toArray, List.getElem_cons_zero, List.getElem_cons_succ, List.setIfInBounds_toArray, List.set_cons_zero, List.set_cons_succ]
            refine wpAnyH_take (i := 6) (v := .agg #[.slice y.k.a y.k.l.length y.k.c, .int .i64 y.s, .bool y.d, .slice y.v.a y.v.l.length y.v.c]) rfl (by kernel_rfl) (by kernel_rfl) (by kernel_rfl) (fun _ _ _ h => h) (Or.inl ⟨by first | kernel_rfl | rfl, fun _ hS => by obtain ⟨⟨k1, k2, k3, k4⟩, k5, k6, k7, k8⟩ := hS; go_simp⟩) s0 ?_
            try simp only [Act.put, List.getElem_toArray, List.getElem_cons_zero, List.getElem_cons_succ, List.setIfInBounds_toArray, List.set_cons_zero, List.set_cons_succ]
            refine wpAnyH_take (i := 7) (v := .slice (some ad2) n c) rfl (by kernel_rfl) (by kernel_rfl) (by kernel_rfl) (fun _ _ _ h => h) (Or.inl ⟨by first | kernel_rfl | rfl, fun _ hS => by go_simp⟩) s0 ?_
            try simp only [Act.put, List.getElem_toArray, List.getElem_cons_zero, List.getElem_cons_succ, List.setIfInBounds_toArray, List.set_cons_zero, List.set_cons_succ]
            refine wpAnyH_take (i := 8) (v := .int .i64 (i : Int)) rfl (by kernel_rfl) (by kernel_rfl) (by kernel_rfl) (fun _ _ _ h => h) (Or.inl ⟨by first | kernel_rfl | rfl, fun _ hS => by go_simp⟩) s0 ?_
            try simp only [Act.put, List.getElem_toArray, List.getElem_cons_zero, List.getElem_cons_succ, List.setIfInBounds_toArray, List.set_cons_zero, List.set_cons_succ]
            refine wpAnyH_take (i := 9) (v := .pointer (some (ad2.add (i * 4)))) rfl (by kernel_rfl) (by kernel_rfl) (by kernel_rfl) (fun _ _ _ h => h) (Or.inl ⟨by first | kernel_rfl | rfl, fun _ hS => by go_simp⟩) s0 ?_
            try simp only [Act.put, List.getElem_toArray, List.getElem_cons_zero, List.getElem_cons_succ, List.setIfInBounds_toArray, List.set_cons_zero, List.set_cons_succ]
            refine wpAnyH_take (i := 10) (v := .agg #[.slice x.k.a xn x.k.c, .int .i64 x.s, .bool x.d, .slice x.v.a xv x.v.c]) rfl (by kernel_rfl) (by kernel_rfl) (by kernel_rfl) (fun _ _ _ h => h) (Or.inl ⟨by first | kernel_rfl | rfl, fun _ hS => by obtain ⟨⟨k1, k2, k3, k4⟩, k5, k6, k7, k8⟩ := hS; go_simp⟩) s0 ?_
            try simp only [Act.put, List.getElem_toArray, List.getElem_cons_zero, List.getElem_cons_succ, List.setIfInBounds_toArray, List.set_cons_zero, List.set_cons_succ]
            refine wpAnyH_ready (rs := [11]) (by kernel_rfl) (by simp) ?_
            refine AllReadyH.cons rfl (fun K hK => ?_) AllReadyH.nil
            go_simp
            go_at_call 25
            refine (HSO.out _ CB.out.drew).mono ?_
            rintro e w14 ⟨rfl, b14⟩
            have C14 : Hid (Below wc.heap.size wc w14) := Lib.hid (below_then CB.out.drew b14)
            clear b14
            refine hK.out _ _ (HS8.out _ C14.out) (fun _ => ?_)
            clear hK K
            try simp only [Act.put, List.getElem_toArray, List.getElem_cons_zero, List.getElem_cons_succ, List.setIfInBounds_toArray, List.set_cons_zero, List.set_cons_succ]
            have s1 := HS8.out _ C14.out
            refine wpAnyH_take (i := 12) (v := .bool false) rfl (by kernel_rfl) (by kernel_rfl) (by kernel_rfl) (fun _ _ _ h => h) (Or.inl ⟨by first | kernel_rfl | rfl, fun _ hS => by go_simp⟩) s1 ?_
            try simp only [Act.put, List.getElem_toArray, List.getElem_cons_zero, List.getElem_cons_succ, List.setIfInBounds_toArray, List.set_cons_zero, List.set_cons_succ]
            refine wpAnyH_take (i := 13) (v := .bool false) rfl (by kernel_rfl) (by kernel_rfl) (by kernel_rfl) (fun _ _ _ h => h) (Or.inl ⟨by first | kernel_rfl | rfl, fun _ hS => by go_simp⟩) s1 ?_
            try simp only [Act.put, List.getElem_toArray, List.getElem_cons_zero, List.getElem_cons_succ, List.setIfInBounds_toArray, List.set_cons_zero, List.set_cons_succ]
            refine wpAnyH_take (i := 14) (v := .bool false) rfl (by kernel_rfl) (by kernel_rfl) (by kernel_rfl) (fun _ _ _ h => h) (Or.inl ⟨by first | kernel_rfl | rfl, fun _ hS => by go_simp⟩) s1 ?_
            try simp only [Act.put, List.getElem_toArray, List.getElem_cons_zero, List.getElem_cons_succ, List.setIfInBounds_toArray, List.set_cons_zero, List.set_cons_succ]
            refine wpAnyH_take (i := 15) (v := .bool false) rfl (by kernel_rfl) (by kernel_rfl) (by kernel_rfl) (fun _ _ _ h => h) (Or.inl ⟨by first | kernel_rfl | rfl, fun _ hS => by go_simp⟩) s1 ?_
            try simp only [Act.put, List.getElem_toArray, List.getElem_cons_zero, List.getElem_cons_succ, List.setIfInBounds_toArray, List.set_cons_zero, List.set_cons_succ]
            refine wpAnyH_take (i := 16) (v := .int .i64 0) rfl (by kernel_rfl) (by kernel_rfl) (by kernel_rfl) (fun _ _ _ h => h) (Or.inl ⟨by first | kernel_rfl | rfl, fun _ hS => by go_simp⟩) s1 ?_
            try simp only [Act.put, List.getElem_toArray, List.getElem_cons_zero, List.getElem_cons_succ, List.setIfInBounds_toArray, List.set_cons_zero, List.set_cons_succ]
            refine wpAnyH_take (i := 17) (v := .bool false) rfl (by kernel_rfl) (by kernel_rfl) (by kernel_rfl) (fun _ _ _ h => h) (Or.inl ⟨by first | kernel_rfl | rfl, fun _ hS => by go_simp⟩) s1 ?_
            try simp only [Act.put, List.getElem_toArray, List.getElem_cons_zero, List.getElem_cons_succ, List.setIfInBounds_toArray, List.set_cons_zero, List.set_cons_succ]
            refine wpAnyH_take (i := 18) (v := .bool false) rfl (by kernel_rfl) (by kernel_rfl) (by kernel_rfl) (fun _ _ _ h => h) (Or.inl ⟨by first | kernel_rfl | rfl, fun _ hS => by go_simp⟩) s1 ?_
            try simp only [Act.put, List.getElem_toArray, List.getElem_cons_zero, List.getElem_cons_succ, List.setIfInBounds_toArray, List.set_cons_zero, List.set_cons_succ]
            refine wpAnyH_take (i := 19) (v := undef) rfl (by kernel_rfl) (by kernel_rfl) (by kernel_rfl) (fun _ _ _ h => h) (Or.inr ⟨by first | kernel_rfl | rfl, rfl⟩) s1 ?_
            try simp only [Act.put, List.getElem_toArray, List.getElem_cons_zero, List.getElem_cons_succ, List.setIfInBounds_toArray, List.set_cons_zero, List.set_cons_succ]
            refine wpAnyH_take (i := 20) (v := undef) rfl (by kernel_rfl) (by kernel_rfl) (by kernel_rfl) (fun _ _ _ h => h) (Or.inr ⟨by first | kernel_rfl | rfl, rfl⟩) s1 ?_
            try simp only [Act.put, List.getElem_toArray, List.getElem_cons_zero, List.getElem_cons_succ, List.setIfInBounds_toArray, List.set_cons_zero, List.set_cons_succ]
            refine wpAnyH_take (i := 21) (v := .bool false) rfl (by kernel_rfl) (by kernel_rfl) (by kernel_rfl) (fun _ _ _ h => h) (Or.inl ⟨by first | kernel_rfl | rfl, fun _ hS => by go_simp⟩) s1 ?_
            try simp only [Act.put, List.getElem_toArray, List.getElem_cons_zero, List.getElem_cons_succ, List.setIfInBounds_toArray, List.set_cons_zero, List.set_cons_succ]
            refine wpAnyH_take (i := 22) (v := .bool false) rfl (by kernel_rfl) (by kernel_rfl) (by kernel_rfl) (fun _ _ _ h => h) (Or.inl ⟨by first | kernel_rfl | rfl, fun _ hS => by go_simp⟩) s1 ?_
            try simp only [Act.put, List.getElem_toArray, List.getElem_cons_zero, List.getElem_cons_succ, List.setIfInBounds_toArray, List.set_cons_zero, List.set_cons_succ]
            refine wpAnyH_done (by kernel_rfl) ?_ _
            try simp only [Act.put, List.getElem_toArray, List.getElem_cons_zero, List.getElem_cons_succ, List.setIfInBounds_toArray, List.set_cons_zero, List.set_cons_succ]
            have BE : Hid (Below w.heap.size w w14) := Lib.hid (BC.out.trans (C14.out.mono BC.out.size))
            have TE : Hid (TabAt w14 t2) := Lib.hid (HTC.out.kept C14.out)
            by_cases hk10 : i = 10
            · have d5 : ((i : Int) == 10) = true := by simp; omega
              go_wp2_with fail
              go_ret
              exact ⟨rfl, BE.out⟩
            · have d5 : ((i : Int) == 10) = false := by simp; omega
              go_wp2_with fail
              go_roundw
              case rel => exact ⟨i + 1, by omega, by go_num, Lib.hid ⟨TE.out, BE.out⟩⟩
              case measure => simp [intOf]; omega
          · have BE : Hid (Below w.heap.size w wc) := Lib.hid BC.out
            have TE : Hid (TabAt wc t2) := Lib.hid HTC.out
            go_upto_region 29 with fail
            refine wp_region_held (S := fun W => W.cell? ⟨xb, 1, none⟩ = some (.int .i64 zeroEn.s)) (by kernel_rfl) ?_
            change wpAnyH _ _ _ _ _ _ _ _ (World.drew _)
            have s0 := (HS8.out _ CB.out.drew).1.2.1
            refine wpAnyH_take (i := 0) (v := .int .i64 11) rfl (by kernel_rfl) (by kernel_rfl) (by kernel_rfl) (fun _ _ _ h => h) (Or.inl ⟨by first | kernel_rfl | rfl, fun _ hS => by go_simp⟩) s0 ?_
            try simp only [Act.put, List.getElem_toArray, List.getElem_cons_zero, List.getElem_cons_succ, List.setIfInBounds_toArray, List.set_cons_zero, List.set_cons_succ]
            refine wpAnyH_take (i := 1) (v := .bool false) rfl (by kernel_rfl) (by kernel_rfl) (by kernel_rfl) (fun _ _ _ h => h) (Or.inl ⟨by first | kernel_rfl | rfl, fun _ hS => by go_simp⟩) s0 ?_
            try simp only [Act.put, List.getElem_toArray, List.getElem_cons_zero, List.getElem_cons_succ, List.setIfInBounds_toArray, List.set_cons_zero, List.set_cons_succ]
            refine wpAnyH_take (i := 2) (v := .bool false) rfl (by kernel_rfl) (by kernel_rfl) (by kernel_rfl) (fun _ _ _ h => h) (Or.inl ⟨by first | kernel_rfl | rfl, fun _ hS => by go_simp⟩) s0 ?_
            try simp only [Act.put, List.getElem_toArray, List.getElem_cons_zero, List.getElem_cons_succ, List.setIfInBounds_toArray, List.set_cons_zero, List.set_cons_succ]
            refine wpAnyH_take (i := 3) (v := undef) rfl (by kernel_rfl) (by kernel_rfl) (by kernel_rfl) (fun _ _ _ h => h) (Or.inr ⟨by first | kernel_rfl | rfl, rfl⟩) s0 ?_
            try simp only [Act.put, List.getElem_toArray, List.getElem_cons_zero, List.getElem_cons_succ, List.setIfInBounds_toArray, List.set_cons_zero, List.set_cons_succ]
            refine wpAnyH_take (i := 4) (v := undef) rfl (by kernel_rfl) (by kernel_rfl) (by kernel_rfl) (fun _ _ _ h => h) (Or.inr ⟨by first | kernel_rfl | rfl, rfl⟩) s0 ?_
            try simp only [Act.put, List.getElem_toArray, List.getElem_cons_zero, List.getElem_cons_succ, List.setIfInBounds_toArray, List.set_cons_zero, List.set_cons_succ]
            refine wpAnyH_take (i := 5) (v := undef) rfl (by kernel_rfl) (by kernel_rfl) (by kernel_rfl) (fun _ _ _ h => h) (Or.inr ⟨by first | kernel_rfl | rfl, rfl⟩) s0 ?_
            try simp only [Act.put, List.getElem_toArray, List.getElem_cons_zero, List.getElem_cons_succ, List.setIfInBounds_toArray, List.set_cons_zero, List.set_cons_succ]
            refine wpAnyH_take (i := 6) (v := undef) rfl (by kernel_rfl) (by kernel_rfl) (by kernel_rfl) (fun _ _ _ h => h) (Or.inr ⟨by first | kernel_rfl | rfl, rfl⟩) s0 ?_
            try simp only [Act.put, List.getElem_toArray, List.getElem_cons_zero, List.getElem_cons_succ, List.setIfInBounds_toArray, List.set_cons_zero, List.set_cons_succ]
            refine wpAnyH_take (i := 7) (v := undef) rfl (by kernel_rfl) (by kernel_rfl) (by kernel_rfl) (fun _ _ _ h => h) (Or.inr ⟨by first | kernel_rfl | rfl, rfl⟩) s0 ?_
            try simp only [Act.put, List.getElem_toArray, List.getElem_cons_zero, List.getElem_cons_succ, List.setIfInBounds_toArray, List.set_cons_zero, List.set_cons_succ]
            refine wpAnyH_take (i := 8) (v := undef) rfl (by kernel_rfl) (by kernel_rfl) (by kernel_rfl) (fun _ _ _ h => h) (Or.inr ⟨by first | kernel_rfl | rfl, rfl⟩) s0 ?_
            try simp only [Act.put, List.getElem_toArray, List.getElem_cons_zero, List.getElem_cons_succ, List.setIfInBounds_toArray, List.set_cons_zero, List.set_cons_succ]
            refine wpAnyH_take (i := 9) (v := undef) rfl (by kernel_rfl) (by kernel_rfl) (by kernel_rfl) (fun _ _ _ h => h) (Or.inr ⟨by first | kernel_rfl | rfl, rfl⟩) s0 ?_
            try simp only [Act.put, List.getElem_toArray, List.getElem_cons_zero, List.getElem_cons_succ, List.setIfInBounds_toArray, List.set_cons_zero, List.set_cons_succ]
            refine wpAnyH_take (i := 10) (v := undef) rfl (by kernel_rfl) (by kernel_rfl) (by kernel_rfl) (fun _ _ _ h => h) (Or.inr ⟨by first | kernel_rfl | rfl, rfl⟩) s0 ?_
            try simp only [Act.put, List.getElem_toArray, List.getElem_cons_zero, List.getElem_cons_succ, List.setIfInBounds_toArray, List.set_cons_zero, List.set_cons_succ]
            refine wpAnyH_take (i := 11) (v := undef) rfl (by kernel_rfl) (by kernel_rfl) (by kernel_rfl) (fun _ _ _ h => h) (Or.inr ⟨by first | kernel_rfl | rfl, rfl⟩) s0 ?_
            try simp only [Act.put, List.getElem_toArray, List.getElem_cons_zero, List.getElem_cons_succ, List.setIfInBounds_toArray, List.set_cons_zero, List.set_cons_succ]
            refine wpAnyH_take (i := 12) (v := undef) rfl (by kernel_rfl) (by kernel_rfl) (by kernel_rfl) (fun _ _ _ h => h) (Or.inr ⟨by first | kernel_rfl | rfl, rfl⟩) s0 ?_
            try simp only [Act.put, List.getElem_toArray, List.getElem_cons_zero, List.getElem_cons_succ, List.setIfInBounds_toArray, List.set_cons_zero, List.set_cons_succ]
            refine wpAnyH_take (i := 13) (v := undef) rfl (by kernel_rfl) (by kernel_rfl) (by kernel_rfl) (fun _ _ _ h => h) (Or.inr ⟨by first | kernel_rfl | rfl, rfl⟩) s0 ?_
            try simp only [Act.put, List.getElem_toArray, List.getElem_cons_zero, List.getElem_cons_succ, List.setIfInBounds_toArray, List.set_cons_zero, List.set_cons_succ]
            refine wpAnyH_take (i := 14) (v := .bool false) rfl (by kernel_rfl) (by kernel_rfl) (by kernel_rfl) (fun _ _ _ h => h) (Or.inl ⟨by first | kernel_rfl | rfl, fun _ hS => by go_simp⟩) s0 ?_
            try simp only [Act.put, List.getElem_toArray, List.getElem_cons_zero, List.getElem_cons_succ, List.setIfInBounds_toArray, List.set_cons_zero, List.set_cons_succ]
            refine wpAnyH_take (i := 15) (v := .bool false) rfl (by kernel_rfl) (by kernel_rfl) (by kernel_rfl) (fun _ _ _ h => h) (Or.inl ⟨by first | kernel_rfl | rfl, fun _ hS => by go_simp⟩) s0 ?_
            try simp only [Act.put, List.getElem_toArray, List.getElem_cons_zero, List.getElem_cons_succ, List.setIfInBounds_toArray, List.set_cons_zero, List.set_cons_succ]
            refine wpAnyH_take (i := 16) (v := .int .i64 11) rfl (by kernel_rfl) (by kernel_rfl) (by kernel_rfl) (fun _ _ _ h => h) (Or.inl ⟨by first | kernel_rfl | rfl, fun _ hS => by go_simp⟩) s0 ?_
            try simp only [Act.put, List.getElem_toArray, List.getElem_cons_zero, List.getElem_cons_succ, List.setIfInBounds_toArray, List.set_cons_zero, List.set_cons_succ]
            refine wpAnyH_take (i := 17) (v := .bool true) rfl (by kernel_rfl) (by kernel_rfl) (by kernel_rfl) (fun _ _ _ h => h) (Or.inl ⟨by first | kernel_rfl | rfl, fun _ hS => by go_simp⟩) s0 ?_
            try simp only [Act.put, List.getElem_toArray, List.getElem_cons_zero, List.getElem_cons_succ, List.setIfInBounds_toArray, List.set_cons_zero, List.set_cons_succ]
            refine wpAnyH_take (i := 18) (v := .bool true) rfl (by kernel_rfl) (by kernel_rfl) (by kernel_rfl) (fun _ _ _ h => h) (Or.inl ⟨by first | kernel_rfl | rfl, fun _ hS => by go_simp⟩) s0 ?_
            try simp only [Act.put, List.getElem_toArray, List.getElem_cons_zero, List.getElem_cons_succ, List.setIfInBounds_toArray, List.set_cons_zero, List.set_cons_succ]
            refine wpAnyH_take (i := 19) (v := .int .i64 11) rfl (by kernel_rfl) (by kernel_rfl) (by kernel_rfl) (fun _ _ _ h => h) (Or.inl ⟨by first | kernel_rfl | rfl, fun _ hS => by go_simp⟩) s0 ?_
            try simp only [Act.put, List.getElem_toArray, List.getElem_cons_zero, List.getElem_cons_succ, List.setIfInBounds_toArray, List.set_cons_zero, List.set_cons_succ]
            refine wpAnyH_take (i := 20) (v := .bool false) rfl (by kernel_rfl) (by kernel_rfl) (by kernel_rfl) (fun _ _ _ h => h) (Or.inl ⟨by first | kernel_rfl | rfl, fun _ hS => by go_simp⟩) s0 ?_
            try simp only [Act.put, List.getElem_toArray, List.getElem_cons_zero, List.getElem_cons_succ, List.setIfInBounds_toArray, List.set_cons_zero, List.set_cons_succ]
            refine wpAnyH_take (i := 21) (v := .bool false) rfl (by kernel_rfl) (by kernel_rfl) (by kernel_rfl) (fun _ _ _ h => h) (Or.inl ⟨by first | kernel_rfl | rfl, fun _ hS => by go_simp⟩) s0 ?_
            try simp only [Act.put, List.getElem_toArray, List.getElem_cons_zero, List.getElem_cons_succ, List.setIfInBounds_toArray, List.set_cons_zero, List.set_cons_succ]
            refine wpAnyH_take (i := 22) (v := .bool false) rfl (by kernel_rfl) (by kernel_rfl) (by kernel_rfl) (fun _ _ _ h => h) (Or.inl ⟨by first | kernel_rfl | rfl, fun _ hS => by go_simp⟩) s0 ?_
            try simp only [Act.put, List.getElem_toArray, List.getElem_cons_zero, List.getElem_cons_succ, List.setIfInBounds_toArray, List.set_cons_zero, List.set_cons_succ]
            refine wpAnyH_done (by kernel_rfl) ?_ _
            try simp only [Act.put, List.getElem_toArray, List.getElem_cons_zero, List.getElem_cons_succ, List.setIfInBounds_toArray, List.set_cons_zero, List.set_cons_succ]
            have BF : Hid (Below w.heap.size w wc.drew) := Lib.hid BC.out.drew
            have TG : Hid (TabAt wc.drew t2) := Lib.hid (HTC.out.kept CB.out.drew)
            by_cases hk10 : i = 10
            · have d5 : ((i : Int) == 10) = true := by simp; omega
              go_wp2_with fail
              go_ret
              exact ⟨rfl, BF.out⟩
            · have d5 : ((i : Int) == 10) = false := by simp; omega
              go_wp2_with fail
              go_roundw
              case rel => exact ⟨i + 1, by omega, by go_num, Lib.hid ⟨TG.out, BF.out⟩⟩
              case measure => simp [intOf]; omega
      · obtain rfl : i = n := by omega
        have BE : Hid (Below w.heap.size w wr) := Lib.hid hr.out.2
        go_wp2_with fail
        go_ret
        exact ⟨rfl, BE.out⟩

  · have sh := (slice_high HIN.out.bys fl k qc HFL.out (by have := HKF.out; omega) HIN.out.cap).1
    have HIK : Hid (In w7 (some qad) (F.take k) k qc) := Lib.hid ⟨by rw [List.length_take, HFL.out]; have := HKF.out; omega, by have := HKF.out; have := HIN.out.cap; omega, HIN.out.top, (slice_high HIN.out.bys fl k qc HFL.out (by have := HKF.out; omega) HIN.out.cap).2, HIN.out.byt.take k⟩
    have HNO : Hid (NoT (F.take k, 0) 11) := Lib.hid (.inr ⟨rfl, HST.out.1 k (by rw [HFL.out]; exact HKF.out.1), rfl⟩)
    go_wp2_with (first
      | (go_at_call 11; refine (calm_any _).mono ?_; rintro e w8 ⟨rfl, hb⟩; have B8 := Lib.hid hb; clear hb)
      | (go_at_call 27; refine (of_t w w8 w7.heap.size (some qad) (F.take k) k qc HIK.out.len (by have := HKF.out; omega) (HIK.out.kept (below_then (below_new w7 _) B8.out)) (obj_kept (heap_alloc_new w7 _) B8.out (Nat.le_refl _)) (B7.out.trans ((below_then (below_new w7 _) B8.out).mono B7.out.size))).mono ?_; rintro e w9 ⟨g2, p2, rfl, s9, v9, hb⟩; have E9 : Hid (PSt w9 w.heap.size g2 p2 ∧ p2.vm = loneV sT (F.take k) k ∧ Below w.heap.size w w9) := Lib.hid ⟨s9, v9, hb⟩; clear s9 v9 hb)
      | (go_at_call 17; rw [e116.out]; refine (open_none E9.out.1 E9.out.2.1 (fits_lone (by decide) (by have := HIK.out.len; have := HKF.out; omega)) (short_lone (by have := HIK.out.len; have := HKF.out; omega)) (read_lone _ _ okT) HNO.out).mono ?_; rintro e w10 ⟨rfl, hb⟩; have E10 : Hid (Below w.heap.size w w10) := Lib.hid (E9.out.2.2.trans (hb.mono E9.out.2.2.size)); clear hb))
    go_ret
    exact ⟨rfl, E10.out⟩
end Go.Proofs.YtmgggddnfeojmaaGreat
