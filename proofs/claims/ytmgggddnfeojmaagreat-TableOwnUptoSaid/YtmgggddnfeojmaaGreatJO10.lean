/-
  Walks: a block packed. Walks: the file of entries. Walks: the file of entries, laid. Walks: a block unpacked.
-/
import Derived.Test.YtmgggddnfeojmaaGreatJO02
import Derived.Test.YtmgggddnfeojmaaGreatJO05
import Derived.Test.YtmgggddnfeojmaaGreatJO09
set_option linter.unusedSimpArgs false
set_option linter.unusedVariables false
namespace Go.Proofs.YtmgggddnfeojmaaGreat
open Go.RowKit
set_option maxRecDepth 100000 in
set_option maxHeartbeats 8000000 in
theorem tpack_any (A : Option Addr) (l : List En) (n c : Nat) (w : World) (hn : l.length = n) (h : Lies w A (evals l)) (hi : EIns w l) (ho : PieceOk 1024 (ers l)) (hc : n ≤ c) (hc9 : (c : Int) ≤ 9223372036854775807) :
    Calls Tryz.prog 60 #[.slice A n c] w (Longer w w.heap.size (frameE (ers l))) := by
  obtain ⟨ho1, ho2, ho3, ho4⟩ := ho
  rw [ers_len, hn] at ho2
  have HP := Lib.hid (packE_len (l := ers l) (by rw [ers_len, hn]; exact ho2) ho4)
  have HPB : Hid (Byt (packE (ers l))) := Lib.hid (packE_byt ho3 (by rw [ers_len, hn]; omega) hi.byt)
  have HVS : Hid ((versE (ers l)).length ≤ 2097152) := Lib.hid (by have := HP.out; unfold packE at this; simp only [List.length_append] at this; omega)
  have HBP : Hid (buildP (pairsE (ers l)) = (flatP [] (pairsE (ers l)), 0)) := Lib.hid (buildP_ok (pairs_fit ho3 (by rw [ers_len, hn]; omega)) (pairs_rises ho3))
  have HG : Hid (∀ q ∈ l, GoodE q.rd) := Lib.hid (fun q hq => ho3.good _ (List.mem_map_of_mem hq))
  have HI := Lib.hid hi
  have HN := Lib.hid hn
  have HLE := Lib.hid ho2
  subst hn
  have WK : Hid (∀ W, Below w.heap.size w W → EIns W l) := Lib.hid (fun W hb => hi.kept hb)
  clear ho1 ho2 ho3 ho4 hi
  have HA := Lib.hid h
  clear h
  go_enter Tryz.func60, Tryz.ntmps60
  go_wp2_with fail
  go_loopw [0, 3, 4] (fun t0 t3 t4 wr => ∃ (l' : List En) (A0 : Option Addr) (c0 : Nat) (T : List Bp) (A3 : Option Addr) (c3 : Nat) (V : List Int) (A4 : Option Addr) (c4 : Nat), t0 = .slice A0 l'.length c0 ∧ t3 = .slice A3 T.length c3 ∧ t4 = .slice A4 V.length c4 ∧ l'.length ≤ c0 ∧ (c0 : Int) ≤ 9223372036854775807 ∧ l'.length ≤ l.length ∧ Hid (Lies w A0 (evals l')) ∧ Hid (Prow wr w.heap.size A3 c3 T) ∧ Hid (Row wr w.heap.size A4 c4 V) ∧ Hid (MadeV wr w.heap.size A4 T) ∧ Hid (PkS l T V l') ∧ Hid (Below w.heap.size w wr)) (fun t0 _ _ _ => (match t0 with | .slice _ k _ => k | _ => 0))
  case atStart => exact ⟨l, A, c, [], none, 0, [], none, 0, rfl, rfl, rfl, hc, hc9, Nat.le_refl _, HA, Lib.hid (Prow.nil _ _), Lib.hid (Row.nil _ _), Lib.hid (MadeV.nil _ _ _), Lib.hid ⟨by simp [rds], by simp, fun _ h => h, fun _ h => by cases h⟩, Lib.hid (Below.refl _ _)⟩
  case round =>
    obtain ⟨l', A0, c0, T, A3, c3, V, A4, c4, rfl, rfl, rfl, k1, k2, k3, HL0, HP3, HR4, HM, HS, HB⟩ := hrel
    cases l' with
    | nil =>
      have i0 : ¬ (0 : Int) > 0 := by omega
      simp only [List.length_nil] at *
      obtain ⟨e1, e2⟩ := HS.out.pairs
      have HBU := Lib.hid (build_any A3 T T.length c3 wr rfl HP3.out.lies (HS.out.ins (WK.out _ HB.out) HM.out) (by have := HS.out.few.1; have := HLE.out; omega) (fun q hq => by
        obtain ⟨y, hy, e⟩ := HS.out.keys q hq
        have := (HG.out y hy).1.2
        have h3 : (rds T).all (fun p => decide (p.2.length ≤ 140737488351232)) = true := by
          rw [e1, List.all_eq_true]
          intro p hp
          have := ((pairs_short (ers l).length (ers l) (Nat.le_refl _) (fun e he => by obtain ⟨z, hz, rfl⟩ := List.mem_map.1 he; exact HG.out z hz) (by rw [ers_len]; have := HLE.out; omega)).2 p hp).2
          simpa using (by omega : p.2.length ≤ 140737488351232)
        rw [List.all_eq_true] at h3
        have h4 := h3 q.rd (List.mem_map_of_mem hq)
        change decide (q.v.l.length ≤ 140737488351232) = true at h4
        refine ⟨by rw [e]; simp only [En.rd] at this; omega, ?_⟩
        simpa using h4))
      rw [e1, HBP.out] at HBU
      have HE2 := Lib.hid e2
      obtain ⟨K, hK⟩ : ∃ K, flatP [] (pairsE (ers l)) = K := ⟨_, rfl⟩
      have HK := Lib.hid hK
      rw [hK] at HBU
      have HPE : Hid (packE (ers l) = digs K.length ++ (K ++ V)) := Lib.hid (by rw [HE2.out, ← HK.out]; rfl)
      clear e1 e2 hK
      obtain ⟨tn, htn⟩ : ∃ t, T.length = t := ⟨_, rfl⟩
      obtain ⟨vn, hvn⟩ : ∃ t, V.length = t := ⟨_, rfl⟩
      rw [htn] at HBU ⊢
      rw [hvn]
      have HTN := Lib.hid htn
      have HVN := Lib.hid hvn
      clear htn hvn
      go_wp2_with (first
        | (go_at_call 83; refine HBU.out.mono ?_; rintro e w1 ⟨A1, c1, rfl, r1, b1⟩; have R1 := Lib.hid r1; have B1 := Lib.hid b1; have V1 := Lib.hid (HR4.out.kept b1 (Nat.le_refl _)); clear r1 b1)
        | (go_at_call 63; refine (appendBytes_any none A1 [] K 0 0 K.length c1 w1 rfl rfl (Bys.nil _ _) R1.out.lies (by have := HP.out; rw [HPE.out] at this; simp only [List.length_append] at this; simp; omega)).mono ?_; rintro e w2 ⟨g2, c2, rfl, m2, b2⟩; have M2 := Lib.hid m2; have B2 := Lib.hid b2; have V2 := Lib.hid (V1.out.kept b2 (Nat.le_refl _)); clear m2 b2)
        | (at_builtin; refine wpList_append_row _ rfl (.tmp 48) (.tmp 49) rfl w1.heap.size (some ⟨g2, 0, none⟩) c2 (digs K.length ++ K) V _ _ vn c4 rfl rfl (by simp) HVN.out (by have := M2.out; rw [List.nil_append] at this; exact this) V2.out.lies B2.out.size (by have := HP.out; rw [HPE.out] at this; simp only [List.length_append] at this ⊢; omega) ?_; intro A7 c7 w7 r7 b7; have R7 := Lib.hid r7; have B7 := Lib.hid b7; clear r7 b7)
        | (go_at_call 62; refine (framed_any A7 (packE (ers l)) _ c7 w7 (by rw [HPE.out, ← List.append_assoc]; exact R7.out.in_n (by have := HPB.out; rw [HPE.out, ← List.append_assoc] at this; exact this) (by simp [HVN.out]; omega)) (by have := HP.out; rw [HPE.out] at this; simp only [List.length_append] at this ⊢; have := HVN.out; simp; omega)).mono ?_; rintro e w8 ⟨A8, c8, rfl, r8, b8⟩; have R8 := Lib.hid r8; have B8 := Lib.hid b8; clear r8 b8))
      go_ret
      have BB : Below w.heap.size w w7 := HB.out.trans ((B1.out.mono HB.out.size).trans ((B2.out.mono (Nat.le_trans HB.out.size B1.out.size)).trans (B7.out.mono (Nat.le_trans HB.out.size B1.out.size))))
      exact ⟨A8, c8, by simp [frameE], R8.out.mono BB.size, below_then BB B8.out⟩
    | cons x m =>
      obtain ⟨r, hr⟩ : ∃ r, runN x.k.l (ers (x :: m)) = r := ⟨_, rfl⟩
      have hr1 : 1 ≤ r := by rw [← hr]; exact runN_pos (e := x.rd) (l := ers m)
      have hr2 : r ≤ (x :: m).length := by rw [← hr, ← ers_len]; exact runN_le _ _
      have HR := Lib.hid hr
      obtain ⟨ad, rfl, -⟩ := lies_entry (j := 0) HL0.out rfl
      obtain ⟨kn, hkn⟩ : ∃ k, x.k.l.length = k := ⟨_, rfl⟩
      have HC : Hid (∀ W, Below w.heap.size w W → W.cell? ad = some (.slice x.k.a kn x.k.c)) := Lib.hid (fun W hb => by
        have := (lies_entry_at (HL0.out.kept hb) (j := 0) (q := x) rfl).1
        rw [hkn] at this
        simpa [Addr.add] using this)
      have HKN := Lib.hid hkn
      have HSK := Lib.hid (sameKey_any (some ad) x m (x :: m).length c0 wr rfl (HL0.out.kept HB.out) (fun q hq => WK.out _ HB.out q (HS.out.rest q hq)) (by have := HLE.out; omega))
      rw [hr] at HSK
      have HU : Hid (∀ W : World, Calls Tryz.prog 61 #[.slice none 0 0, .int .u64 r] W (New W (digs r))) := Lib.hid (fun W => by
        have := appendUint_any none [] 0 0 r W rfl (Bys.nil _ _) (by omega) (by have := HLE.out; omega) (by have := (digs_len (r : Int)).2; simp; omega)
        rwa [List.nil_append] at this)
      have HDB : Hid (Byt (digs (r : Int))) := Lib.hid (digs_byt _ (by omega) (by have := HLE.out; omega))
      obtain ⟨z, hz⟩ : ∃ z, (x :: m).length = z := ⟨_, rfl⟩
      obtain ⟨tn, htn⟩ : ∃ t, T.length = t := ⟨_, rfl⟩
      obtain ⟨vn, hvn⟩ : ∃ t, V.length = t := ⟨_, rfl⟩
      obtain ⟨dn, hdn⟩ : ∃ t, (digs (r : Int)).length = t := ⟨_, rfl⟩
      rw [hz] at k1 k3 hr2 HSK ⊢
      rw [htn, hvn]
      have HZ := Lib.hid hz
      have HTN := Lib.hid htn
      have HVN := Lib.hid hvn
      have HDN := Lib.hid hdn
      have i0 : (z : Int) > 0 := by omega
      have i00 : (0 : Int) < z := by omega
      have i01 : 0 < z := by omega
      have i02 : z ≠ 0 := by omega
      have i1 : (r : Int) ≤ c0 := by omega
      have i2 : (r : Int) ≤ z := by omega
      have i3 : (0 : Int) ≤ r := by omega
      have i4 : IntKind.u64.wrap (r : Int) = r := by rw [IntKind.wrap_u64]; have := HLE.out; omega
      clear hr hkn hz htn hvn hdn
      go_upto_region 5 with (go_at_call 81; refine HSK.out.mono ?_; rintro e w1 ⟨rfl, q, hw1⟩; have bb := below_drewN (Below.refl wr.heap.size wr) q; rw [← hw1] at bb; have HP5 := Lib.hid (HP3.out.kept bb (Nat.le_refl _)); have HR5 := Lib.hid (HR4.out.kept bb (Nat.le_refl _)); have HM5 := Lib.hid (HM.out.kept bb (Nat.le_refl _)); have HB5 := Lib.hid (HB.out.trans (bb.mono HB.out.size)); clear hw1 bb)
      have CB := Lib.hid (Below.refl w1.heap.size w1)
      have S1 := Lib.hid trivial
      go_region_held3 (fun W => W.cell? ad = some (.slice x.k.a kn x.k.c)) (first | exact HC.out _ B8.out | exact HC.out _ (HB5.out.trans ((by repeat (first | exact Below.refl _ _ | exact CB.out | refine Below.drew ?_ | refine below_al ?_ _) : Below w1.heap.size w1 _).mono HB5.out.size)) | go_keep) (first
        | (have t1 := S1; go_at_call 61; refine (HU.out _).mono ?_; rintro e w2 ⟨g2, c2, rfl, m2, b2⟩; have G2 := Lib.hid (And.intro m2.lt.1 m2.lt.2); have b3 := below_then (by repeat (first | exact Below.refl _ _ | exact CB.out | refine Below.drew ?_ | refine below_al ?_ _) : Below w1.heap.size w1 _) b2; have M2 := Lib.hid (m2.row.mono (Nat.le_trans HB5.out.size (by repeat (first | exact Below.refl _ _ | exact CB.out | refine Below.drew ?_ | refine below_al ?_ _) : Below w1.heap.size w1 _).size)); have N2 : Hid (w1.heap.size ≤ g2) := Lib.hid (Nat.le_trans (by repeat (first | exact Below.refl _ _ | exact CB.out | refine Below.drew ?_ | refine below_al ?_ _) : Below w1.heap.size w1 _).size m2.lt.1); replace CB := Lib.hid b3; clear m2 b2 b3 S1 t1)
        | (refine step_append_prow _ (by rfl) (.tmp 15) (.tmp 24) (by rfl) w.heap.size A3 c3 T [⟨x.k, ⟨some ⟨g2, 0, none⟩, c2, digs r⟩⟩] _ tn 1 1 rfl rfl HTN.out rfl (HP5.out.kept (by repeat (first | exact Below.refl _ _ | exact CB.out | refine Below.drew ?_ | refine below_al ?_ _)) (Nat.le_refl _)) (lit_pair _ x.k.a (some ⟨g2, 0, none⟩) x.k.c c2 x.k.l (digs r) kn _ HKN.out rfl) (Nat.le_trans HB5.out.size (by repeat (first | exact Below.refl _ _ | exact CB.out | refine Below.drew ?_ | refine below_al ?_ _) : Below w1.heap.size w1 _).size) (by have := HS.out.few.1; have := HLE.out; simp only [List.length_singleton]; omega) ?_; intro A8 c8 w8 r8 b8 g8; have X8 := Lib.hid (pk_more (q := ⟨x.k, ⟨some ⟨g2, 0, none⟩, c2, digs r⟩⟩) g8 HTN.out HP5.out HR5.out HM5.out M2.out HDB.out (fun ad e => by obtain rfl := (Option.some.inj e); exact N2.out) (by repeat (first | exact Below.refl _ _ | exact CB.out | refine Below.drew ?_ | refine below_al ?_ _)) (by repeat (first | exact Below.refl _ _ | refine Below.drew ?_ | refine below_al ?_ _))); have R8 := Lib.hid r8; have B8 := Lib.hid ((HB5.out.trans ((by repeat (first | exact Below.refl _ _ | exact CB.out | refine Below.drew ?_ | refine below_al ?_ _) : Below w1.heap.size w1 _).mono HB5.out.size)).trans b8); clear r8 b8 g8))
      have PS8 := Lib.hid (HS.out.step (A := some ⟨g2, 0, none⟩) (c := c2) HR.out)
      have HT8 : Hid ((T ++ [(⟨x.k, ⟨some ⟨g2, 0, none⟩, c2, digs r⟩⟩ : Bp)]).length = tn + 1) := Lib.hid (by rw [List.length_append, HTN.out]; rfl)
      obtain ⟨T8, hT8⟩ : ∃ T8 : List Bp, T ++ [(⟨x.k, ⟨some ⟨g2, 0, none⟩, c2, digs r⟩⟩ : Bp)] = T8 := ⟨_, rfl⟩
      rw [hT8] at PS8 HT8 X8 R8
      clear hT8 HP5 HR5 HM5 HB5 G2 M2 N2 CB HU HSK HDB HDN
      have XR := Lib.hid X8.out.1
      have XM := Lib.hid X8.out.2
      clear X8
      have HLx : Hid (∀ W, Below w.heap.size w W → Lies W (some ad) (evals (x :: m))) := Lib.hid (fun W hb => HL0.out.kept hb)
      have HXl : Hid (∀ q ∈ x :: m, q ∈ l) := Lib.hid HS.out.rest
      have HSV : Hid ((versE (ers l)).length = V.length + (versE (ers (x :: m))).length) := Lib.hid (by rw [HS.out.vs, List.length_append])
      clear HL0 HS
      generalize hxm : x :: m = xm at *
      go_wp2_with fail
      go_loopw [4, 30] (fun t4 t30 wi => ∃ (k : Nat) (Vi : List Int) (Ai : Option Addr) (ci : Nat), k ≤ r ∧ t30 = .int .i64 k ∧ t4 = .slice Ai Vi.length ci ∧ Hid (Vi = V ++ versE (ers (xm.take k))) ∧ Hid (Row wi w.heap.size Ai ci Vi) ∧ Hid (MadeV wi w.heap.size Ai T8) ∧ Hid (Prow wi w.heap.size A8 c8 T8) ∧ Hid (Below w.heap.size w wi)) (fun _ t30 _ => r - (intOf t30).toNat)
      case atStart => exact ⟨0, V, A4, c4, by omega, rfl, by rw [HVN.out], Lib.hid (by simp [ers, versE]), XR, XM, R8, B8⟩
      case round =>
        obtain ⟨k, Vi, Ai, ci, kr, rfl, rfl, EV, RI, MI, PI, BI⟩ := hrel
        by_cases hlt : k < r
        · have hq := List.getElem?_eq_getElem (l := xm) (i := k) (by have := HZ.out; omega)
          generalize xm[k]'(by have := HZ.out; omega) = y at hq
          have HQ := Lib.hid hq
          obtain ⟨a0, a1, a2, a3⟩ := lies_entry_at (HLx.out _ BI.out) hq
          have HPK : Hid (∀ W, Below w.heap.size w W → Calls Tryz.prog 82 #[y.val] W (New W (verE y.rd))) := Lib.hid (fun W hb => packed_any y W (WK.out W hb y (HXl.out y (List.mem_of_getElem? hq))) (HG.out y (HXl.out y (List.mem_of_getElem? hq))))
          obtain ⟨ve, hve⟩ : ∃ v, verE y.rd = v := ⟨_, rfl⟩
          have HEV := Lib.hid (vers_more EV.out hq hve)
          have HVL : Hid (Vi.length + ve.length ≤ 2097152) := Lib.hid (by
            have e := congrArg List.length HEV.out
            rw [List.length_append, List.length_append] at e
            have e2 : (versE (ers xm)).length = (versE (ers (xm.take (k + 1)))).length + (versE (ers (xm.drop (k + 1)))).length := by
              rw [← List.length_append, ← versE_append, ← ers_append, List.take_append_drop]
            have := HSV.out
            have := HVS.out
            omega)
          rw [hve, En.val_eq] at HPK
          obtain ⟨⟨ya, yc, yk⟩, ys, yd, ⟨va, vc, yv⟩⟩ := y
          simp only at a0 a1 a2 a3 HPK
          obtain ⟨yn, hyn⟩ : ∃ n, yk.length = n := ⟨_, rfl⟩
          obtain ⟨yvn, hyvn⟩ : ∃ n, yv.length = n := ⟨_, rfl⟩
          obtain ⟨vin, hvin⟩ : ∃ n, Vi.length = n := ⟨_, rfl⟩
          rw [hyn] at a0 HPK
          rw [hyvn] at a3 HPK
          rw [hvin]
          have HVIN := Lib.hid hvin
          clear hq hve hyn hyvn hvin
          have j0 : (k : Int) < r := by omega
          have j1 : (0 : Int) ≤ k := by omega
          go_wp2_with (first
            | (go_at_call 82; refine (HPK.out _ (BI.out.alloc BI.out.size _)).mono ?_; rintro e w3 ⟨g3, c3', rfl, m3, b3⟩; have b4 := below_then (below_new wr _) b3; have BI3 := Lib.hid (BI.out.trans (b4.mono BI.out.size)); have RI3 := Lib.hid (RI.out.kept b4 (Nat.le_refl _)); have MI3 := Lib.hid (MI.out.kept b4 (Nat.le_refl _)); have PI3 := Lib.hid (PI.out.kept b4 (Nat.le_refl _)); have M3 := Lib.hid m3; clear m3 b3 b4)
            | (at_builtin; refine wpList_append_placed _ rfl (.tmp 34) (.tmp 36) rfl w.heap.size Ai ci Vi ve _ vin _ _ rfl rfl HVIN.out rfl RI3.out M3.out.bys BI3.out.size (by have := HVL.out; omega) ?_; intro A9 c9 w9 r9 b9 g9 p9; have R9 := Lib.hid r9; have B9 := Lib.hid (BI3.out.trans b9); have M9 := Lib.hid (MI3.out.grown g9 p9); have P9 : Hid (Prow w9 w.heap.size A8 c8 T8) := Lib.hid (by have g := g9; rw [← HVIN.out] at g; exact own_apart PI3.out RI3.out (by decide) g); clear r9 b9 g9 p9))
          go_roundw
          case rel => exact ⟨k + 1, Vi ++ ve, A9, c9, by omega, by go_num, by rw [List.length_append, HVIN.out], HEV, R9, M9, P9, B9⟩
          case measure => simp [intOf]; omega
        · obtain rfl : k = r := by omega
          have j0 : ¬ (k : Int) < k := by omega
          go_wp2_with fail
          go_roundw
          case rel => exact ⟨xm.drop k, _, c0 - k, T8, A8, c8, Vi, Ai, ci, by rw [List.length_drop, HZ.out]; rfl, by rw [HT8.out], rfl, by rw [List.length_drop, HZ.out]; omega, by omega, by rw [List.length_drop, HZ.out]; omega, Lib.hid (lies_drop (HLx.out _ (Below.refl _ _)) k c0 (by rw [HZ.out]; exact k1)), PI, RI, MI, Lib.hid (by rw [EV.out]; exact PS8.out), BI⟩
          case measure => show z - k < z; omega
end Go.Proofs.YtmgggddnfeojmaaGreat
namespace Go.Proofs.YtmgggddnfeojmaaGreat
open Go.RowKit
/-- Rows of bytes of the call's own, none in the block of a row that grows. -/
def MadeS (w : World) (B : Nat) (C : Option Addr) (T : List Sl) : Prop := ∀ q ∈ T, Row w B q.a q.c q.l ∧ Byt q.l ∧ ∀ ad cd, q.a = some ad → C = some cd → ad.block ≠ cd.block
theorem MadeS.nil (w : World) (B : Nat) (C : Option Addr) : MadeS w B C [] := fun _ h => by cases h
theorem MadeS.kept {w w' : World} {B D : Nat} {C : Option Addr} {T : List Sl} (h : MadeS w B C T) (hb : Below D w w') (hD : w.heap.size ≤ D) : MadeS w' B C T := fun q hq => ⟨(h q hq).1.kept hb hD, (h q hq).2⟩
theorem MadeS.grown {w w' : World} {B : Nat} {C C' : Option Addr} {c n : Nat} {T : List Sl} (h : MadeS w B C T) (hg : w.grownBy w' (Value.slice C n c).ownBlock) (hp : ∀ ad, C' = some ad → (∃ a0, C = some a0 ∧ ad.block = a0.block) ∨ w.heap.size ≤ ad.block) : MadeS w' B C' T := fun q hq => by
  obtain ⟨h1, h2, h3⟩ := h q hq
  refine ⟨own_far h1 hg (fun ad hA cd hC => h3 cd ad hC hA), h2, fun ad cd ha hc => ?_⟩
  rcases hp cd hc with ⟨a0, e1, e2⟩ | hlt
  · rw [e2]
    exact h3 ad a0 ha e1
  · have := (own_in h1 ad ha).2
    omega
theorem MadeS.beside {w w' : World} {B D : Nat} {C P : Option Addr} {d : Nat} {T : List Sl} {U : List En} (h : MadeS w B C T) (hs : Erow w D P d U) (hg : w.grownBy w' (Value.slice P U.length d).ownBlock) : MadeS w' B C T := fun q hq => ⟨(h q hq).1.besideE hs hg, (h q hq).2⟩
theorem MadeS.snoc {w : World} {B : Nat} {C : Option Addr} {T : List Sl} {q : Sl} (h : MadeS w B C T) (h1 : Row w B q.a q.c q.l) (h2 : Byt q.l) (h3 : ∀ ad cd, q.a = some ad → C = some cd → ad.block ≠ cd.block) : MadeS w B C (T ++ [q]) := fun x hx => by
  rcases List.mem_append.1 hx with hx | hx
  · exact h x hx
  · rw [List.mem_singleton] at hx
    subst hx
    exact ⟨h1, h2, h3⟩
def vsE (l : List En) : List Sl := l.map En.v
theorem vsE_append (l m : List En) : vsE (l ++ m) = vsE l ++ vsE m := by simp [vsE]
theorem ix_more {B : Nat} {w1 w2 W w8 : World} {A5 A6 : Option Addr} {c5 c6 k : Nat} {ix : List En} {V : List Int} {q : En} (b8 : W.grownBy w8 (Value.slice A5 k c5).ownBlock) (ht : ix.length = k) (hP : Erow w1 B A5 c5 ix) (hR : Row w1 B A6 c6 V) (hM : MadeS w1 B A6 (vsE ix)) (h2 : Row w2 B q.v.a q.v.c q.v.l) (hy : Byt q.v.l) (hf : ∀ ad, q.v.a = some ad → w1.heap.size ≤ ad.block) (hW : Below w1.heap.size w1 W) (hW2 : Below w2.heap.size w2 W) : Row w8 B A6 c6 V ∧ MadeS w8 B A6 (vsE (ix ++ [q])) := by
  subst ht
  have hP' := hP.kept hW (Nat.le_refl _)
  refine ⟨(hR.kept hW (Nat.le_refl _)).besideE hP' b8, ?_⟩
  rw [vsE_append]
  refine ((hM.kept hW (Nat.le_refl _)).beside hP' b8).snoc ((h2.kept hW2 (Nat.le_refl _)).besideE hP' b8) hy (fun ad cd ha hc => ?_)
  have h3 := hf ad ha
  have h4 := (own_in hR cd hc).2
  omega
/-- What stands in the index of some of the blocks. -/
structure IxS (l : List En) (ps : List (List Er)) (ix : List En) : Prop where
  rd : ers ix = indexE ps
  keys : ∀ p ∈ ix, ∃ q ∈ l, p.k = q.k
theorem IxS.snoc {l : List En} {ps : List (List Er)} {ix : List En} {x : En} {m : List En} {A : Option Addr} {c : Nat} (h : IxS l ps ix) (hx : x ∈ l) : IxS l (ps ++ [ers (x :: m)]) (ix ++ [⟨x.k, x.s, false, ⟨A, c, digs ((x :: m).length : Nat) ++ digs ((frameE (ers (x :: m))).length : Nat)⟩⟩]) := by
  refine ⟨?_, ?_⟩
  · have e := tellE_cons x.rd (ers m)
    rw [show x.rd :: ers m = ers (x :: m) from rfl, ers_len] at e
    generalize digs ((x :: m).length : Nat) ++ digs ((frameE (ers (x :: m))).length : Nat) = D at e ⊢
    have e2 : ers [(⟨x.k, x.s, false, ⟨A, c, D⟩⟩ : En)] = [tellE (ers (x :: m))] := by rw [e]; rfl
    rw [ers_append, h.rd, e2]
    unfold indexE
    rw [List.map_append]
    rfl
  · intro p hp
    rcases List.mem_append.1 hp with hp | hp
    · exact h.keys p hp
    · rw [List.mem_singleton] at hp
      subst hp
      exact ⟨x, hx, rfl⟩
theorem IxS.ins {w : World} {B : Nat} {C : Option Addr} {l : List En} {ps : List (List Er)} {ix : List En} (h : IxS l ps ix) (hi : EIns w l) (hm : MadeS w B C (vsE ix)) : EIns w ix := fun p hp => by
  obtain ⟨q, hq, e⟩ := h.keys p hp
  have := hm p.v (List.mem_map_of_mem hp)
  exact ⟨e ▸ (hi q hq).1, this.1.in_ this.2.1⟩
theorem PieceOk.wide {m : Nat} {p : List Er} (h : PieceOk m p) (hm : m ≤ 1024) : PieceOk 1024 p := ⟨h.1, Nat.le_trans h.2.1 hm, h.2.2⟩
theorem lies_gl {w : World} {A : Option Addr} {T : List Gl} {j : Nat} {g : Gl} (h : Lies w A (gvals T)) (hg : T[j]? = some g) : ∃ ad, A = some ad ∧ w.cell? (ad.add j) = some (.slice g.a g.l.length g.c) := by
  have h0 := gvals_of hg
  rcases h with h | ⟨ad, rfl, h2⟩
  · rw [h] at h0
    simp at h0
  · exact ⟨ad, rfl, h2 _ _ h0⟩
theorem frame_len {m : Nat} {p : List Er} (h : PieceOk m p) (hm : m ≤ 1024) : (frameE p).length ≤ 2097160 := by
  have := packE_len (Nat.le_trans h.2.1 hm) h.2.2.2
  unfold frameE
  rw [putL_len]
  omega
theorem frames_take {ps : List (List Er)} {k : Nat} {p : List Er} (h : ps[k]? = some p) : (ps.take (k + 1)).flatMap frameE = (ps.take k).flatMap frameE ++ frameE p := by
  rw [List.take_add_one, h, List.flatMap_append]
  simp
theorem frames_le {ps : List (List Er)} (k : Nat) : ((ps.take k).flatMap frameE).length ≤ (ps.flatMap frameE).length := by
  conv => rhs; rw [← List.take_append_drop k ps, List.flatMap_append, List.length_append]
  omega
end Go.Proofs.YtmgggddnfeojmaaGreat
namespace Go.Proofs.YtmgggddnfeojmaaGreat
open Go.RowKit
theorem PcS.all {W : World} {m : Nat} {l : List En} {T : List Gl} (h : PcS W m l T []) : T.map (fun g => ers g.l) = piecesE m (ers l) := by
  have e := h.eq
  rw [show piecesE m (ers []) = [] from rfl, List.append_nil] at e
  exact e.symm
theorem last_entry {l : List En} {nn : Nat} (hn : l.length = nn + 1) : ∃ z, l[nn]? = some z ∧ lastE (ers l) = z.k.l := by
  have h := List.getElem?_eq_getElem (l := l) (i := nn) (by omega)
  generalize l[nn]'(by omega) = z at h
  refine ⟨z, h, ?_⟩
  have e : (ers l).getLast? = some z.rd := by
    rw [List.getLast?_eq_getElem?, ers_len, hn, Nat.add_sub_cancel]
    exact ers_get h
  unfold lastE
  rw [e]
  rfl
set_option maxRecDepth 100000 in
set_option maxHeartbeats 16000000 in
theorem fileOf_any (A : Option Addr) (l : List En) (n c m : Nat) (w : World) (hn : l.length = n) (h : Lies w A (evals l)) (hi : EIns w l) (ho : OrdL (ers l)) (hne : l ≠ []) (hl : n * 64 ≤ 140737488351232) (hc : n ≤ c) (hc9 : (c : Int) ≤ 9223372036854775807) (hm0 : 1 ≤ m) (hm : m ≤ 1024) (hF : (fileE (ers l) m).length ≤ 140737488355328) :
    Calls Tryz.prog 36 #[.slice A n c, .int .i64 m] w (Longer w w.heap.size (fileE (ers l) m)) := by
  obtain ⟨ps, qs, P⟩ := parts_of (size := m) ho (fun e => hne (List.map_eq_nil_iff.1 e)) hi.byt hm0 hm
  have HP := Lib.hid P
  have HF : Hid ((headT qs.length (lastE (ers l))).length + ((qs.flatMap frameE).length + (ps.flatMap frameE).length) ≤ 140737488355328) := Lib.hid (by rw [P.file] at hF; simpa only [List.length_append] using hF)
  have HPI := Lib.hid (pieces_any A l n c m w hn h ho.good hl hc hc9 hm0 (by omega))
  have WK : Hid (∀ W, Below w.heap.size w W → EIns W l) := Lib.hid (fun W hb => hi.kept hb)
  have HA : Hid (∀ W, Below w.heap.size w W → Lies W A (evals l)) := Lib.hid (fun W hb => h.kept hb)
  have HN := Lib.hid hn
  have HL := Lib.hid hl
  have HPL : Hid (ps.length ≤ n) := Lib.hid (by
    have := pieces_few ps (fun p hp => (P.ok p hp).1.1)
    rw [P.flat, ers_len, hn] at this
    exact this)
  have HQL : Hid (qs.length ≤ n) := Lib.hid (by have := P.ql; rw [ers_len, hn] at this; exact this)
  rw [P.file]
  obtain ⟨nn, rfl⟩ : ∃ nn, n = nn + 1 := ⟨n - 1, by have := List.length_pos_iff.2 hne; omega⟩
  obtain ⟨z, hz, hzl⟩ := last_entry hn
  rw [hzl] at HF ⊢
  have HZ := Lib.hid hz
  have HKEY : Hid (z.k.l.length ≤ 200 ∧ Byt z.k.l) := Lib.hid (hzl ▸ P.key)
  clear P hF h hi ho hne hl hn hm0 hz hzl
  go_enter Tryz.func36, Tryz.ntmps36
  go_upto_region 4 with (go_at_call 59; refine HPI.out.mono ?_; rintro e w1 ⟨T, A18, c18, rfl, g1, p1, b1⟩; have G1 := Lib.hid g1; have PS1 := Lib.hid p1; have B1 := Lib.hid b1; clear g1 p1 b1 HPI)
  have HT := Lib.hid (PS1.out.all.trans HP.out.cut)
  have HTL : Hid (T.length = ps.length) := Lib.hid (by rw [← HT.out, List.length_map])
  have WK1 : Hid (∀ W, Below w1.heap.size w1 W → EIns W l) := Lib.hid (fun W hb => WK.out W (B1.out.trans (hb.mono B1.out.size)))
  have HA1 : Hid (∀ W, Below w1.heap.size w1 W → Lies W A (evals l)) := Lib.hid (fun W hb => HA.out W (B1.out.trans (hb.mono B1.out.size)))
  have LT : Hid (∀ W, Below w1.heap.size w1 W → Lies W A18 (gvals T)) := Lib.hid (fun W hb => G1.out.lies.kept hb)
  have LG : Hid (∀ g ∈ T, (∀ W, Below w1.heap.size w1 W → Lies W g.a (evals g.l)) ∧ (∀ q ∈ g.l, q ∈ l) ∧ (g.l.length ≤ g.c ∧ (g.c : Int) ≤ 9223372036854775807) ∧ PieceOk 1024 (ers g.l)) := Lib.hid (fun g hg => ⟨fun W hb => (PS1.out.lies g hg).kept hb, PS1.out.mem g hg, PS1.out.cap g hg, (HP.out.ok _ (by rw [← HT.out]; exact List.mem_map_of_mem hg)).1⟩)
  obtain ⟨tn, htn⟩ : ∃ t, T.length = t := ⟨_, rfl⟩
  rw [htn]
  have HTN := Lib.hid htn
  have HTN2 : Hid (tn ≤ nn + 1) := Lib.hid (by have := HTL.out; have := HPL.out; omega)
  clear htn G1 PS1 WK HA
  go_loopw [5, 6, 20] (fun t5 t6 t20 wr => ∃ (k : Nat) (ix : List En) (A5 : Option Addr) (c5 : Nat) (Bl : List Int) (A6 : Option Addr) (c6 : Nat), k ≤ tn ∧ t20 = .int .i64 k ∧ t5 = .slice A5 k c5 ∧ t6 = .slice A6 Bl.length c6 ∧ Hid (ix.length = k) ∧ Hid (IxS l (ps.take k) ix) ∧ Hid (Bl = (ps.take k).flatMap frameE) ∧ Hid (Erow wr w1.heap.size A5 c5 ix) ∧ Hid (Row wr w1.heap.size A6 c6 Bl) ∧ Hid (MadeS wr w1.heap.size A6 (vsE ix)) ∧ Hid (Below w1.heap.size w1 wr)) (fun _ _ t20 _ => tn - (intOf t20).toNat)
  case atStart => exact ⟨0, [], none, 0, [], none, 0, by omega, rfl, rfl, rfl, Lib.hid rfl, Lib.hid ⟨rfl, fun _ h => by cases h⟩, Lib.hid rfl, Lib.hid (Erow.nil _ _), Lib.hid (Row.nil _ _), Lib.hid (MadeS.nil _ _ _), Lib.hid (Below.refl _ _)⟩
  case round =>
    obtain ⟨k, ix, A5, c5, Bl, A6, c6, hk, rfl, rfl, rfl, XL, XS, BE, ER, RR, MS, BB⟩ := hrel
    by_cases hlt : k < tn
    · have hq := List.getElem?_eq_getElem (l := T) (i := k) (by have := HTN.out; omega)
      generalize T[k]'(by have := HTN.out; omega) = g at hq
      have hgm := List.mem_of_getElem? hq
      obtain ⟨ad18, rfl, hcell⟩ := lies_gl (LT.out _ BB.out) hq
      obtain ⟨lg1, lg2, ⟨lg3, lg4⟩, lg5⟩ := LG.out g hgm
      have hps : ps[k]? = some (ers g.l) := by rw [← HT.out]; simp [hq]
      obtain ⟨ga, gc, gl⟩ := g
      simp only at hcell lg1 lg2 lg3 lg4 lg5 hps
      obtain ⟨x, xs, rfl⟩ : ∃ x xs, gl = x :: xs := by
        cases gl with
        | nil => exact absurd rfl lg5.1
        | cons x xs => exact ⟨x, xs, rfl⟩
      have HPK := Lib.hid (tpack_any ga (x :: xs) _ gc wr rfl (lg1 _ BB.out) (fun q hq => WK1.out _ BB.out q (lg2 q hq)) lg5 lg3 lg4)
      obtain ⟨ad, rfl, -⟩ := lies_entry (j := 0) (lg1 _ BB.out) rfl
      obtain ⟨kn, hkn⟩ : ∃ k, x.k.l.length = k := ⟨_, rfl⟩
      have HC : Hid (∀ W, Below w1.heap.size w1 W → W.cell? ad = some (.slice x.k.a kn x.k.c) ∧ W.cell? ⟨ad.block, ad.off + 1, none⟩ = some (.int .i64 x.s)) := Lib.hid (fun W hb => by
        have := lies_entry_at (lg1 W hb) (j := 0) (q := x) rfl
        unfold AtE at this
        rw [hkn] at this
        have := And.intro this.1 this.2.1
        simpa [Addr.add] using this)
      have HKN := Lib.hid hkn
      have HFL := Lib.hid (frame_len lg5 (Nat.le_refl _))
      have HPN : Hid ((x :: xs).length ≤ 1024) := Lib.hid (by have := lg5.2.1; rwa [ers_len] at this)
      have XS2 : Hid (∀ A c, IxS l (ps.take (k + 1)) (ix ++ [⟨x.k, x.s, false, ⟨A, c, digs ((x :: xs).length : Nat) ++ digs ((frameE (ers (x :: xs))).length : Nat)⟩⟩])) := Lib.hid (fun A c => by
        have := XS.out.snoc (m := xs) (A := A) (c := c) (lg2 x (by simp))
        rwa [List.take_add_one, hps])
      have BE2 : Hid (Bl ++ frameE (ers (x :: xs)) = (ps.take (k + 1)).flatMap frameE) := Lib.hid (by rw [BE.out, frames_take hps])
      have HBL : Hid (Bl.length + (frameE (ers (x :: xs))).length ≤ 140737488355328) := Lib.hid (by
        have e := congrArg List.length BE2.out
        rw [List.length_append] at e
        have := frames_le (ps := ps) (k + 1)
        have := HF.out
        omega)
      obtain ⟨F, hF⟩ : ∃ F, frameE (ers (x :: xs)) = F := ⟨_, rfl⟩
      rw [hF] at HPK HFL XS2 BE2 HBL
      obtain ⟨pn, hpn⟩ : ∃ t, (x :: xs).length = t := ⟨_, rfl⟩
      rw [hpn] at hcell HPK HPN XS2 lg3
      obtain ⟨fl, hfl⟩ : ∃ t, F.length = t := ⟨_, rfl⟩
      rw [hfl] at HFL XS2 HBL
      obtain ⟨bn, hbn⟩ : ∃ t, Bl.length = t := ⟨_, rfl⟩
      rw [hbn] at HBL ⊢
      have HFLn := Lib.hid hfl
      have HBN := Lib.hid hbn
      have HPP : Hid (1 ≤ pn) := Lib.hid (by rw [← hpn]; simp)
      have i4 : IntKind.u64.wrap (pn : Int) = pn := by rw [IntKind.wrap_u64]; have := HPN.out; omega
      have i5 : IntKind.u64.wrap (fl : Int) = fl := by rw [IntKind.wrap_u64]; have := HFL.out; omega
      have HU : Hid (∀ W : World, Calls Tryz.prog 61 #[.slice none 0 0, .int .u64 pn] W (New W (digs pn))) := Lib.hid (fun W => by
        have := appendUint_any none [] 0 0 pn W rfl (Bys.nil _ _) (by omega) (by have := HPN.out; omega) (by have := (digs_len (pn : Int)).2; simp; omega)
        rwa [List.nil_append] at this)
      have HU2 : Hid (∀ (W : World) g d, Bys W (some ⟨g, 0, none⟩) (digs (pn : Int)) → Calls Tryz.prog 61 #[.slice (some ⟨g, 0, none⟩) (digs (pn : Int)).length d, .int .u64 fl] W (New W (digs pn ++ digs fl))) := Lib.hid (fun W g d hb =>
        appendUint_any _ _ _ _ fl W rfl hb (by omega) (by have := HFL.out; omega) (by have := (digs_len (pn : Int)).2; have := (digs_len (fl : Int)).2; omega))
      have HDB : Hid (Byt (digs (pn : Int) ++ digs fl)) := Lib.hid ((digs_byt _ (by omega) (by have := HPN.out; omega)).append (digs_byt _ (by omega) (by have := HFL.out; omega)))
      have S1 := Lib.hid trivial
      have j0 : (k : Int) < tn := by omega
      have j1 : 0 < pn := HPP.out
      have j2 : (0 : Int) < pn := by omega
      have j3 : pn ≠ 0 := by omega
      have hTN2 := HTN2.out
      clear hq hgm lg1 lg2 lg5 hps hF hpn hfl hbn hkn
      go_upto_region 8 with (first
        | (go_at_call 60; refine HPK.out.mono ?_; rintro e w2 ⟨A9, c9, rfl, r9, b9⟩; rw [HFLn.out]; have R9 := Lib.hid r9; have B9 := Lib.hid b9; clear r9 b9 HPK)
        | (have t1 := S1; go_at_call 61; refine (HU.out _).mono ?_; rintro e w3 ⟨g3, c3, rfl, m3, b3⟩; have M3 := Lib.hid m3; have B3 := Lib.hid b3; clear m3 b3 S1 t1 HU)
        | (have t1 := M3; go_at_call 61; refine (HU2.out _ _ _ M3.out.bys).mono ?_; rintro e w4 ⟨g4, c4, rfl, m4, b4⟩; have M4 := Lib.hid m4; have B4 := Lib.hid b4; clear m4 b4 M3 t1 HU2))
      have B24 : Hid (Below w2.heap.size w2 w4) := Lib.hid (below_then B3.out B4.out)
      have B14 : Hid (Below wr.heap.size wr w4) := Lib.hid (below_then B9.out B24.out)
      have BW : Hid (Below w1.heap.size w1 w4) := Lib.hid (BB.out.trans (B14.out.mono BB.out.size))
      have ER4 := Lib.hid (ER.out.kept B14.out (Nat.le_refl _))
      have RR4 := Lib.hid (RR.out.kept B14.out (Nat.le_refl _))
      have MS4 := Lib.hid (MS.out.kept B14.out (Nat.le_refl _))
      have R94 := Lib.hid (R9.out.kept B24.out (Nat.le_refl _))
      have V4 := Lib.hid (M4.out.row.mono (Nat.le_trans (Nat.le_trans BB.out.size B9.out.size) B3.out.size))
      have N4 : Hid (wr.heap.size ≤ g4) := Lib.hid (Nat.le_trans (Nat.le_trans B9.out.size B3.out.size) M4.out.lt.1)
      clear B3 B4 B9 B24 R9 M4
      go_region_held3 (fun W => W.cell? ad = some (.slice x.k.a kn x.k.c) ∧ W.cell? ⟨ad.block, ad.off + 1, none⟩ = some (.int .i64 x.s)) (first | exact HC.out _ B8.out | exact HC.out _ (BW.out.trans ((by repeat (first | exact Below.refl _ _ | refine Below.drew ?_ | refine below_al ?_ _) : Below w4.heap.size w4 _).mono BW.out.size)) | go_keep) (first
        | (refine step_append_erow _ (by rfl) (.tmp 34) (.tmp 45) (by rfl) w1.heap.size A5 c5 ix [⟨x.k, x.s, false, ⟨some ⟨g4, 0, none⟩, c4, digs pn ++ digs fl⟩⟩] _ k 1 1 rfl rfl XL.out rfl (ER4.out.kept (by repeat (first | exact Below.refl _ _ | refine Below.drew ?_ | refine below_al ?_ _)) (Nat.le_refl _)) (lit_entry _ x.k.a (some ⟨g4, 0, none⟩) x.k.c c4 x.k.l (digs pn ++ digs fl) x.s false kn _ HKN.out (by simp)) (Nat.le_trans BW.out.size (by repeat (first | exact Below.refl _ _ | refine Below.drew ?_ | refine below_al ?_ _) : Below w4.heap.size w4 _).size) (by have := XL.out; have := HTN2.out; have := HL.out; simp only [List.length_singleton]; omega) ?_; intro A8 c8 w8 r8 b8 g8; have X8 := Lib.hid (ix_more (q := ⟨x.k, x.s, false, ⟨some ⟨g4, 0, none⟩, c4, digs pn ++ digs fl⟩⟩) g8 XL.out ER.out RR.out MS.out V4.out HDB.out (fun ad e => by obtain rfl := (Option.some.inj e); exact N4.out) (B14.out.trans ((by repeat (first | exact Below.refl _ _ | refine Below.drew ?_ | refine below_al ?_ _) : Below w4.heap.size w4 _).mono B14.out.size)) (by repeat (first | exact Below.refl _ _ | refine Below.drew ?_ | refine below_al ?_ _))); have R98 : Hid (Row w8 wr.heap.size A9 c9 F) := Lib.hid (by have g := g8; rw [← XL.out] at g; exact (R94.out.kept (by repeat (first | exact Below.refl _ _ | refine Below.drew ?_ | refine below_al ?_ _) : Below w4.heap.size w4 _) (Nat.le_refl _)).besideE (ER4.out.kept (by repeat (first | exact Below.refl _ _ | refine Below.drew ?_ | refine below_al ?_ _) : Below w4.heap.size w4 _) (Nat.le_refl _)) g); have R8 := Lib.hid r8; have B8 := Lib.hid ((BW.out.trans ((by repeat (first | exact Below.refl _ _ | refine Below.drew ?_ | refine below_al ?_ _) : Below w4.heap.size w4 _).mono BW.out.size)).trans b8); clear r8 b8 g8))
      have XS3 := Lib.hid (XS2.out (some ⟨g4, 0, none⟩) c4)
      have XL3 : Hid ((ix ++ [(⟨x.k, x.s, false, ⟨some ⟨g4, 0, none⟩, c4, digs pn ++ digs fl⟩⟩ : En)]).length = k + 1) := Lib.hid (by rw [List.length_append, XL.out]; rfl)
      have XR := Lib.hid X8.out.1
      have XM := Lib.hid X8.out.2
      obtain ⟨ix3, hix3⟩ : ∃ ix3 : List En, ix ++ [(⟨x.k, x.s, false, ⟨some ⟨g4, 0, none⟩, c4, digs pn ++ digs fl⟩⟩ : En)] = ix3 := ⟨_, rfl⟩
      rw [hix3] at XS3 XL3 XM R8
      clear hix3 X8 XS2 N4 V4 R94 MS4 RR4 ER4 BW B14 ER RR MS XS
      go_wp2_with (at_builtin; refine wpList_append_placed _ rfl (.tmp 47) (.tmp 48) rfl w1.heap.size A6 c6 Bl F _ bn fl _ rfl rfl HBN.out HFLn.out XR.out R98.out.lies B8.out.size (by have := HBL.out; have := HFLn.out; have := HBN.out; omega) ?_; intro A10 c10 w10 r10 b10 g10 p10; have R10 := Lib.hid r10; have B10 := Lib.hid (B8.out.trans b10); have M10 := Lib.hid (XM.out.grown g10 p10); have P10 : Hid (Erow w10 w1.heap.size A8 c8 ix3) := Lib.hid (by have g := g10; rw [← HBN.out] at g; exact own_apart R8.out XR.out (by decide) g); clear r10 b10 g10 p10)
      go_roundw
      case rel => exact ⟨k + 1, ix3, A8, c8, Bl ++ F, A10, c10, by omega, by go_num, rfl, by rw [List.length_append, HBN.out, HFLn.out], XL3, XS3, BE2, P10, R10, M10, B10⟩
      case measure => simp [intOf]; omega
    · obtain rfl : k = tn := by omega
      have j0 : ¬ (k : Int) < k := by omega
      have etake : ps.take k = ps := List.take_of_length_le (by have := HTL.out; have := HTN.out; omega)
      rw [etake] at XS BE
      have hix := XS.out.rd
      have hqs : piecesE 1024 (ers ix) = qs := by rw [hix]; exact HP.out.qcut
      have HPI2 := Lib.hid (pieces_any A5 ix k c5 1024 wr XL.out ER.out.lies (by rw [hix]; exact HP.out.ix.good) (by have := HL.out; have := HTN2.out; omega) (by have := (own_cap ER.out).1; have := XL.out; omega) (own_cap ER.out).2 (by decide) (by decide))
      have EI : Hid (∀ W, Below wr.heap.size wr W → EIns W ix) := Lib.hid (fun W hb => (XS.out.ins (WK1.out _ BB.out) MS.out).kept hb)
      have BW : Hid (∀ W, Below wr.heap.size wr W → Below w1.heap.size w1 W) := Lib.hid (fun W hb => BB.out.trans (hb.mono BB.out.size))
      have RB : Hid (∀ W, Below wr.heap.size wr W → Row W w1.heap.size A6 c6 Bl) := Lib.hid (fun W hb => RR.out.kept hb (Nat.le_refl _))
      have HQS := Lib.hid hqs
      clear hix hqs etake ER RR MS XS
      obtain ⟨ad, rfl, -⟩ := lies_entry (j := nn) (HA1.out _ (Below.refl _ _)) HZ.out
      obtain ⟨zn, hzn⟩ : ∃ n, z.k.l.length = n := ⟨_, rfl⟩
      have HC : Hid (∀ W, Below wr.heap.size wr W → W.cell? (ad.add (nn * 4)) = some (.slice z.k.a zn z.k.c) ∧ In W z.k.a z.k.l zn z.k.c) := Lib.hid (fun W hb => by
        have := (lies_entry_at (HA1.out W (BW.out W hb)) HZ.out).1
        rw [hzn] at this
        refine ⟨this, ?_⟩
        have := (WK1.out W (BW.out W hb) z (List.mem_of_getElem? HZ.out)).1
        rwa [hzn] at this)
      have HZN := Lib.hid hzn
      obtain ⟨bn, hbn⟩ : ∃ t, Bl.length = t := ⟨_, rfl⟩
      rw [hbn]
      have HBN := Lib.hid hbn
      have HN2 : Hid ((nn : Int) + 1 ≤ 9223372036854775807) := Lib.hid (by omega)
      clear hzn hbn
      go_upto_region 12 with (go_at_call 59; refine HPI2.out.mono ?_; rintro e w2 ⟨T2, A11, c11, rfl, g2, p2, b2⟩; have G2 := Lib.hid g2; have PS2 := Lib.hid p2; have B2 := Lib.hid b2; clear g2 p2 b2 HPI2)
      have HT2 := Lib.hid (PS2.out.all.trans HQS.out)
      have HTL2 : Hid (T2.length = qs.length) := Lib.hid (by rw [← HT2.out, List.length_map])
      have BW2 : Hid (∀ W, Below w2.heap.size w2 W → Below wr.heap.size wr W) := Lib.hid (fun W hb => B2.out.trans (hb.mono B2.out.size))
      have LT2 : Hid (∀ W, Below w2.heap.size w2 W → Lies W A11 (gvals T2)) := Lib.hid (fun W hb => G2.out.lies.kept hb)
      have LG2 : Hid (∀ g ∈ T2, (∀ W, Below w2.heap.size w2 W → Lies W g.a (evals g.l)) ∧ (∀ q ∈ g.l, q ∈ ix) ∧ (g.l.length ≤ g.c ∧ (g.c : Int) ≤ 9223372036854775807) ∧ PieceOk 1024 (ers g.l)) := Lib.hid (fun g hg => ⟨fun W hb => (PS2.out.lies g hg).kept hb, PS2.out.mem g hg, PS2.out.cap g hg, (HP.out.qok _ (by rw [← HT2.out]; exact List.mem_map_of_mem hg)).1⟩)
      obtain ⟨qn, hqn⟩ : ∃ t, T2.length = t := ⟨_, rfl⟩
      rw [hqn]
      have HQN := Lib.hid hqn
      have HQ2 : Hid (qs.length = qn) := Lib.hid (by rw [← HTL2.out, hqn])
      have HQ3 : Hid (qn ≤ nn + 1) := Lib.hid (by have := HQ2.out; have := HQL.out; omega)
      clear hqn G2 PS2 LT LG HT HQS HTL
      have hc0 := (HC.out _ B2.out).1
      have i4 : IntKind.u64.wrap (qn : Int) = qn := by rw [IntKind.wrap_u64]; have := HQ3.out; have := HL.out; omega
      have HU : Hid (∀ W : World, Calls Tryz.prog 61 #[.slice none 0 0, .int .u64 qn] W (New W (digs qn))) := Lib.hid (fun W => by
        have := appendUint_any none [] 0 0 qn W rfl (Bys.nil _ _) (by omega) (by have := HQ3.out; have := HL.out; omega) (by have := (digs_len (qn : Int)).2; simp; omega)
        rwa [List.nil_append] at this)
      have HAB : Hid (∀ (W : World) g d, Bys W (some ⟨g, 0, none⟩) (digs (qn : Int)) → Below wr.heap.size wr W → Calls Tryz.prog 63 #[.slice (some ⟨g, 0, none⟩) (digs (qn : Int)).length d, .slice z.k.a zn z.k.c] W (New W (digs qn ++ (digs zn ++ z.k.l)))) := Lib.hid (fun W g d hb hw =>
        appendBytes_any _ _ _ _ _ _ _ _ _ rfl HZN.out hb (HC.out W hw).2.bys (by have := (digs_len (qn : Int)).2; have := (digs_len (zn : Int)).2; have := HKEY.out.1; have := HZN.out; omega))
      have HHB : Hid (Byt (digs (qn : Int) ++ (digs zn ++ z.k.l)) ∧ (digs (qn : Int) ++ (digs zn ++ z.k.l)).length ≤ 2097152 ∧ putL (digs (qn : Int) ++ (digs zn ++ z.k.l)) = headT qs.length z.k.l) := Lib.hid ⟨(digs_byt _ (by omega) (by have := HQ3.out; have := HL.out; omega)).append ((digs_byt _ (by omega) (by have := HZN.out; have := HKEY.out.1; omega)).append HKEY.out.2), by have := (digs_len (qn : Int)).2; have := (digs_len (zn : Int)).2; have := HKEY.out.1; have := HZN.out; simp only [List.length_append]; omega, by unfold headT; rw [HQ2.out, HZN.out]⟩
      obtain ⟨X, hX⟩ : ∃ X, digs (qn : Int) ++ (digs zn ++ z.k.l) = X := ⟨_, rfl⟩
      rw [hX] at HAB HHB
      obtain ⟨xn, hxn⟩ : ∃ t, X.length = t := ⟨_, rfl⟩
      have HXN := Lib.hid hxn
      have HFR : Hid (∀ (W : World) g d, Row W w2.heap.size (some ⟨g, 0, none⟩) d X → Calls Tryz.prog 62 #[.slice (some ⟨g, 0, none⟩) xn d] W (Longer W W.heap.size (headT qs.length z.k.l))) := Lib.hid (fun W g d hr => by
        have := framed_any (some ⟨g, 0, none⟩) X xn d W (hr.in_n HHB.out.1 HXN.out) (by rw [← HXN.out]; exact HHB.out.2.1)
        rwa [HHB.out.2.2] at this)
      have HQT : Hid (qs.flatMap frameE = (qs.take qn).flatMap frameE) := Lib.hid (by rw [List.take_of_length_le (by have := HQ2.out; omega)])
      obtain ⟨H0, hH0⟩ : ∃ H0, headT qs.length z.k.l = H0 := ⟨_, rfl⟩
      rw [hH0] at HFR HF
      have HH0 := Lib.hid hH0
      clear hX hxn hH0
      have hn2 := HN2.out
      have S1 := Lib.hid trivial
      go_wp2_with (first
        | (have t1 := S1; go_at_call 61; refine (HU.out _).mono ?_; rintro e w3 ⟨g3, c3, rfl, m3, b3⟩; have M3 := Lib.hid m3; have B3 := Lib.hid b3; clear m3 b3 S1 t1 HU)
        | (go_at_call 63; refine (HAB.out _ _ _ M3.out.bys (BW2.out _ B3.out)).mono ?_; rintro e w4 ⟨g4, c4, rfl, m4, b4⟩; rw [HXN.out]; have B4 := Lib.hid (below_then B3.out b4); have M4 := Lib.hid (m4.row.mono B3.out.size); clear m4 b4 B3 M3 HAB)
        | (go_at_call 62; refine (HFR.out _ _ _ M4.out).mono ?_; rintro e w5 ⟨A5', c5', rfl, r5, b5⟩; have B5 := Lib.hid (below_then B4.out b5); have R5 := Lib.hid (r5.mono B4.out.size); clear r5 b5 B4 M4 HFR))
      have CW : Hid (∀ W, Below w5.heap.size w5 W → Below w2.heap.size w2 W) := Lib.hid (fun W hb => B5.out.trans (hb.mono B5.out.size))
      have hq3 := HQ3.out
      clear hc0 HC HHB i4
      go_loopw [13, 69] (fun t13 t69 w6 => ∃ (k : Nat) (Fl : List Int) (A13 : Option Addr) (c13 : Nat), k ≤ qn ∧ t69 = .int .i64 k ∧ t13 = .slice A13 Fl.length c13 ∧ Hid (Fl = H0 ++ (qs.take k).flatMap frameE) ∧ Hid (Row w6 w2.heap.size A13 c13 Fl) ∧ Hid (Below w2.heap.size w2 w6)) (fun _ t69 _ => qn - (intOf t69).toNat)
      case atStart => exact ⟨0, H0, A5', c5', by omega, rfl, rfl, Lib.hid (by simp), R5, B5⟩
      case round =>
        obtain ⟨j, Fl, A13, c13, hj, rfl, rfl, FE, FR, FB⟩ := hrel
        by_cases hlt2 : j < qn
        · have hq := List.getElem?_eq_getElem (l := T2) (i := j) (by have := HQN.out; omega)
          generalize T2[j]'(by have := HQN.out; omega) = g at hq
          have hgm := List.mem_of_getElem? hq
          obtain ⟨ad11, rfl, hcell⟩ := lies_gl (LT2.out _ FB.out) hq
          obtain ⟨lg1, lg2, ⟨lg3, lg4⟩, lg5⟩ := LG2.out g hgm
          have hps : qs[j]? = some (ers g.l) := by rw [← HT2.out]; simp [hq]
          have HPK := Lib.hid (tpack_any g.a g.l _ g.c _ rfl (lg1 _ FB.out) (fun q hq => EI.out _ (BW2.out _ FB.out) q (lg2 q hq)) lg5 lg3 lg4)
          have FE2 : Hid (Fl ++ frameE (ers g.l) = H0 ++ (qs.take (j + 1)).flatMap frameE) := Lib.hid (by rw [FE.out, frames_take hps, List.append_assoc])
          have HFL : Hid (Fl.length + (frameE (ers g.l)).length ≤ 140737488355328) := Lib.hid (by
            have e := congrArg List.length FE2.out
            rw [List.length_append, List.length_append] at e
            have := frames_le (ps := qs) (j + 1)
            have := HF.out
            omega)
          obtain ⟨F, hF⟩ : ∃ F, frameE (ers g.l) = F := ⟨_, rfl⟩
          rw [hF] at HPK FE2 HFL
          obtain ⟨pn, hpn⟩ : ∃ t, g.l.length = t := ⟨_, rfl⟩
          rw [hpn] at hcell HPK
          obtain ⟨fn, hfn⟩ : ∃ t, Fl.length = t := ⟨_, rfl⟩
          rw [hfn] at HFL ⊢
          have HFN := Lib.hid hfn
          have j0 : (j : Int) < qn := by omega
          clear hq hgm lg1 lg2 lg3 lg4 lg5 hps hF hpn hfn
          go_wp2_with (first
            | (go_at_call 60; refine HPK.out.mono ?_; rintro e w7 ⟨A7, c7, rfl, r7, b7⟩; have R7 := Lib.hid r7; have B7 := Lib.hid b7; have FR7 := Lib.hid (FR.out.kept b7 (Nat.le_refl _)); have FB7 := Lib.hid (FB.out.trans (b7.mono FB.out.size)); clear r7 b7 HPK)
            | (at_builtin; refine wpList_append_row _ rfl (.tmp 73) (.tmp 75) rfl w2.heap.size A13 c13 Fl F _ fn _ _ rfl rfl HFN.out rfl FR7.out R7.out.lies FB7.out.size (by have := HFL.out; have := HFN.out; omega) ?_; intro A8 c8 w8 r8 b8; have R8 := Lib.hid r8; have B8 := Lib.hid (FB7.out.trans b8); clear r8 b8))
          go_roundw
          case rel => exact ⟨j + 1, Fl ++ F, A8, c8, by omega, by go_num, by rw [List.length_append, HFN.out], FE2, R8, B8⟩
          case measure => simp [intOf]; omega
        · obtain rfl : j = qn := by omega
          have j0 : ¬ (j : Int) < j := by omega
          have BLW := Lib.hid (RB.out _ (BW2.out _ FB.out))
          have HFL : Hid (Fl.length + Bl.length ≤ 140737488355328) := Lib.hid (by
            have e := congrArg List.length FE.out
            have e2 := congrArg List.length BE.out
            rw [List.length_append, ← HQT.out] at e
            have := HF.out
            omega)
          have HAll : Hid (Fl ++ Bl = H0 ++ (qs.flatMap frameE ++ ps.flatMap frameE)) := Lib.hid (by rw [FE.out, BE.out, ← HQT.out, List.append_assoc])
          obtain ⟨fn, hfn⟩ : ∃ t, Fl.length = t := ⟨_, rfl⟩
          rw [hfn] at HFL ⊢
          have HFN := Lib.hid hfn
          clear hfn
          go_wp2_with (at_builtin; refine wpList_append_row _ rfl (.tmp 78) (.tmp 79) rfl w2.heap.size A13 c13 Fl Bl _ fn bn _ rfl rfl HFN.out HBN.out FR.out BLW.out.lies FB.out.size (by have := HFL.out; have := HFN.out; omega) ?_; intro A8 c8 w8 r8 b8; have R8 := Lib.hid r8; have B8 := Lib.hid (FB.out.trans b8); clear r8 b8)
          go_ret
          have B9 := BW.out _ (BW2.out _ (Below.refl _ _))
          have B10 : Below w.heap.size w w2 := B1.out.trans (B9.mono B1.out.size)
          refine ⟨A8, c8, ?_, ?_, B10.trans (B8.out.mono B10.size)⟩
          · rw [HH0.out, ← HAll.out, List.length_append, HFN.out, HBN.out]
            rfl
          · rw [HH0.out, ← HAll.out]
            exact R8.out.mono B10.size
end Go.Proofs.YtmgggddnfeojmaaGreat
namespace Go.Proofs.YtmgggddnfeojmaaGreat
open Go.RowKit
theorem bytesP_byt {L : List Int} {a most : Int} (hB : Byt L) : Byt (bytesP L a most).1 := by
  by_cases h : (bytesP L a most).2.2 = 0
  · rw [(bytesP_in h).2.2.2]
    exact fun x hx => hB x (List.mem_of_mem_drop (List.mem_of_mem_take hx))
  · unfold bytesP at h ⊢
    split
    · exact fun x hx => by cases hx
    · split
      · exact fun x hx => by cases hx
      · split
        · exact fun x hx => by cases hx
        · next h1 h2 h3 =>
          rw [if_neg h1, if_neg h2, if_neg h3] at h
          exact absurd rfl h
theorem bytesP_len {L : List Int} {a most : Int} : (bytesP L a most).1.length ≤ L.length := by
  by_cases h : (bytesP L a most).2.2 = 0
  · rw [(bytesP_in h).2.2.2]
    simp only [List.length_take, List.length_drop]
    omega
  · unfold bytesP at h ⊢
    split
    · simp
    · split
      · simp
      · split
        · simp
        · next h1 h2 h3 =>
          rw [if_neg h1, if_neg h2, if_neg h3] at h
          exact absurd rfl h
theorem verP_ok {L : List Int} {a : Int} (hB : Byt L) (h : (verP L a).2.2 = 0) : 0 ≤ a ∧ a + 2 ≤ (verP L a).2.1 ∧ (verP L a).2.1 ≤ L.length ∧ Byt (verP L a).1.2.2 ∧ 0 ≤ (verP L a).1.1 ∧ (verP L a).1.1 ≤ 9223372036854775807 := by
  unfold verP at h ⊢
  split at h
  · next h1 => exact absurd h h1
  · next h1 =>
    rw [if_neg h1]
    simp only at h ⊢
    obtain ⟨b0, b1, b2, -⟩ := uintP_bd L a hB
    have b3 := b2 (by simpa using h1)
    obtain ⟨c0, c1, c2, -⟩ := uintP_bd L (uintP L a).2.1 hB
    have k := bytesP_in h
    have c3 := c2 k.1
    refine ⟨b3.1, ?_, (bytesP_end hB h).2, bytesP_byt hB, by omega, by omega⟩
    rw [k.2.2.2]
    simp only
    omega
/-- The rest of a payload: so many versions of a key, and then the other pairs. -/
def restV (L : List Int) (ps : List Pr) (k : List Int) (m : Nat) (a : Int) (acc : List Er) : Option (List Er) :=
  match versP L k m a acc with
  | none => none
  | some (acc', a') => unpF L ps a' acc'
theorem restV_bad {L : List Int} {ps : List Pr} {k : List Int} {m : Nat} {a : Int} {acc : List Er} (h : (verP L a).2.2 ≠ 0) : restV L ps k (m + 1) a acc = none := by
  unfold restV versP
  rw [if_pos h]
theorem restV_ok {L : List Int} {ps : List Pr} {k : List Int} {m : Nat} {a : Int} {acc : List Er} (h : (verP L a).2.2 = 0) : restV L ps k (m + 1) a acc = restV L ps k m (verP L a).2.1 (acc ++ [(k, (verP L a).1)]) := by
  unfold restV
  conv => lhs; unfold versP
  rw [if_neg (by simpa using h)]
theorem restV_zero (L : List Int) (ps : List Pr) (k : List Int) (a : Int) (acc : List Er) : restV L ps k 0 a acc = unpF L ps a acc := rfl
theorem unpF_bad {L : List Int} {p : Pr} {ps : List Pr} {a : Int} {acc : List Er} (h : (uintP p.2 0).2.2 ≠ 0 ∨ (uintP p.2 0).2.1 < p.2.length ∨ (uintP p.2 0).1 = 0) : unpF L (p :: ps) a acc = none := by
  unfold unpF
  rw [if_pos h]
theorem unpF_ok {L : List Int} {p : Pr} {ps : List Pr} {a : Int} {acc : List Er} (h : ¬ ((uintP p.2 0).2.2 ≠ 0 ∨ (uintP p.2 0).2.1 < p.2.length ∨ (uintP p.2 0).1 = 0)) : unpF L (p :: ps) a acc = restV L ps p.1 (uintP p.2 0).1.toNat a acc := by
  conv => lhs; unfold unpF
  rw [if_neg h]
  rfl
/-- Where the unpacking stands. -/
structure UpS (L : List Int) (a : Int) (T : List En) : Prop where
  lo : 0 ≤ a
  hi : a ≤ L.length
  few : (T.length : Int) ≤ a
  byt : ∀ p ∈ ers T, ErB p
  fit : ∀ q ∈ T, EFit q
theorem UpS.step {L : List Int} {a : Int} {T : List En} {q : En} (h : UpS L a T) (hB : Byt L) (hk : Byt q.k.l) (h0 : (verP L a).2.2 = 0) (hq : q.rd = (q.k.l, (verP L a).1)) : UpS L (verP L a).2.1 (T ++ [q]) := by
  obtain ⟨b0, b1, b2, b3, b4, b5⟩ := verP_ok hB h0
  have hs : q.s = (verP L a).1.1 := congrArg (fun e : Er => e.2.1) hq
  have hv : q.v.l = (verP L a).1.2.2 := congrArg (fun e : Er => e.2.2.2) hq
  refine ⟨by have := h.lo; omega, b2, by have := h.few; simp only [List.length_append, List.length_singleton]; omega, ?_, ?_⟩
  · intro p hp
    rw [ers_append] at hp
    rcases List.mem_append.1 hp with hp | hp
    · exact h.byt p hp
    · obtain rfl : p = q.rd := by simpa [ers] using hp
      exact ⟨hk, by show Byt q.v.l; rw [hv]; exact b3⟩
  · intro p hp
    rcases List.mem_append.1 hp with hp | hp
    · exact h.fit p hp
    · rw [List.mem_singleton] at hp
      subst hp
      unfold EFit
      omega
/-- What unpacking answers. -/
def UnE (w : World) (r : Option (List Er)) (e : Ending) (w' : World) : Prop := Below w.heap.size w w' ∧ match r with
  | none => ∃ A n c, e = .returned (.tuple #[.slice A n c, .bool false])
  | some l => ∃ l' A c, ers l' = l ∧ e = .returned (.tuple #[.slice A l'.length c, .bool true]) ∧ EMades w' w.heap.size l' ∧ Erow w' w.heap.size A c l' ∧ (∀ p ∈ l, ErB p) ∧ ∀ q ∈ l', EFit q
theorem unE_none {w w' : World} {r : Option (List Er)} {A : Option Addr} {n c : Nat} (h : r = none) (hb : Below w.heap.size w w') : UnE w r (.returned (.tuple #[.slice A n c, .bool false])) w' := by
  subst h
  exact ⟨hb, A, n, c, rfl⟩
theorem gotV_row {w' : World} {B c : Nat} {A : Option Addr} {K : List Int} (h : (A = none ∧ K = [] ∧ c = 0) ∨ ∃ g, A = some ⟨g, 0, none⟩ ∧ Mine w' B g c K) : Row w' B A c K := by
  rcases h with ⟨rfl, rfl, rfl⟩ | ⟨g, rfl, h⟩
  · exact Row.nil _ _
  · exact h.row
theorem gotV_in {w' : World} {B c : Nat} {A : Option Addr} {K : List Int} (h : (A = none ∧ K = [] ∧ c = 0) ∨ ∃ g, A = some ⟨g, 0, none⟩ ∧ Mine w' B g c K) (hB : Byt K) : In w' A K K.length c := (gotV_row h).in_ hB
theorem block_besideE {w w' : World} {D g : Nat} {C : Option Addr} {d : Nat} {T : List En} {cs : Array Value} {ty : TypeId} {fr : Nat × Nat} (h : w.heap[g]? = some (.cells cs ty fr)) (hs : Erow w D C d T) (ht : ty ≠ 48) (hg : w.grownBy w' (Value.slice C T.length d).ownBlock) : w'.heap[g]? = some (.cells cs ty fr) := by
  have hlt : g < w.heap.size := (Array.getElem?_eq_some_iff.1 h).1
  rw [hg.block g hlt, h]
  intro e
  rcases hs.2 with ⟨hn, _⟩ | ⟨g', cap', cur', e', _, h2', _⟩
  · rw [hn] at e
    simp [Value.ownBlock] at e
  · rw [e'] at e
    obtain rfl : g = g' := by simpa [Value.ownBlock] using e
    rw [h] at h2'
    injection h2' with h2'
    injection h2' with _ h2'
    exact ht h2'
theorem up_more {B D : Nat} {W w9 : World} {A8 : Option Addr} {c8 tn bx : Nat} {T : List En} {q : En} {cs : Array Value} {ty : TypeId} {fr : Nat × Nat} (g : W.grownBy w9 (Value.slice A8 tn c8).ownBlock) (ht : T.length = tn) (hE : Erow W D A8 c8 T) (hM : EMades W B T) (hk : Row W B q.k.a q.k.c q.k.l) (hv : Row W B q.v.a q.v.c q.v.l) (hb : W.heap[bx]? = some (.cells cs ty fr)) (hty : ty ≠ 48) : EMades w9 B (T ++ [q]) ∧ w9.heap[bx]? = some (.cells cs ty fr) := by
  subst ht
  exact ⟨(hM.besideE hE g).snoc (hk.besideE hE g) (hv.besideE hE g), block_besideE hb hE hty g⟩
theorem block_alloc {w : World} {g : Nat} {cs : Array Value} {ty : TypeId} {fr : Nat × Nat} (h : w.heap[g]? = some (.cells cs ty fr)) (o : Obj) : (w.alloc o).heap[g]? = some (.cells cs ty fr) := by
  have hlt : g < w.heap.size := (Array.getElem?_eq_some_iff.1 h).1
  rw [RowKit.Below.heap_alloc _ _ _ hlt]
  exact h
theorem block_kept {w w' : World} {B g : Nat} {cs : Array Value} {ty : TypeId} {fr : Nat × Nat} (h : w.heap[g]? = some (.cells cs ty fr)) (hb : Below B w w') (hB : w.heap.size ≤ B) : w'.heap[g]? = some (.cells cs ty fr) := by
  have hlt : g < w.heap.size := (Array.getElem?_eq_some_iff.1 h).1
  rw [hb.block g (by omega)]
  exact h
end Go.Proofs.YtmgggddnfeojmaaGreat
