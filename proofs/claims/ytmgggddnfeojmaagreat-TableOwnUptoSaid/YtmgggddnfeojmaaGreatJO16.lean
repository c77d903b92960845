/-
  Walks: a block of a table, read once, whoever else turns what is theirs. Walks: a table gone over, beside whoever asks. Walks: a table gone over: the iterator. Walks: what is handed out to go over a table; keys below a bound.
-/
import Derived.Test.YtmgggddnfeojmaaGreatJO15
set_option linter.unusedSimpArgs false
set_option linter.unusedVariables false
namespace Go.Proofs.YtmgggddnfeojmaaGreat
open Go.RowKit
set_option maxRecDepth 100000 in
set_option maxHeartbeats 16000000 in
theorem treadW_any (S : Nat → Prop) (t : Tm) (i : Nat) (r : Rm) (w : World) (hw : TabW S w t) (hS : ∀ g, S g → g < w.heap.size) (hr : t.R[i]? = some r) :
    Calls Tryz.prog 73 #[.pointer (some ⟨t.b, 0, none⟩), .int .i64 i] w (RdW S w t (blockP t.tb i)) := by
  have h := hw.at_
  have HTW := Lib.hid hw
  have HSS := Lib.hid hS
  have hmlt : Hid (t.mb < w.heap.size) := Lib.hid (by obtain ⟨es, ck, hm⟩ := h.mapAt; exact (Array.getElem?_eq_some_iff.1 hm).1)
  have HT : Hid (∀ W, Below w.heap.size w W → TabAt W t) := Lib.hid (fun W hb => h.kept hb)
  have HR := Lib.hid hr
  have HY := Lib.hid h.data.byt
  have hi := (List.getElem?_eq_some_iff.1 hr).1
  obtain ⟨hwc, es, ck, hm, hcs⟩ := hw
  have hcd := hcs.c
  have HCS := Lib.hid hcs
  have HWC := Lib.hid hwc
  have t1 := tbl_cells (d := .slice t.da t.L.length t.dc) (g := .slice t.ga t.K.length t.gc) (ra := t.ra) (rn := t.R.length) (rc := t.rc) (mb := t.mb) (cnt := t.cnt) h.blk
  have ta := t1.1.2.1
  obtain ⟨ad, hra, r0, r1, r2, r3, r4, r5, r6⟩ := row_seven h.rows hr
  rw [hra] at ta
  have HRA := Lib.hid hra
  obtain ⟨rn, hrn⟩ : ∃ q, t.R.length = q := ⟨_, rfl⟩
  obtain ⟨kn, hkn⟩ : ∃ q, r.k.l.length = q := ⟨_, rfl⟩
  obtain ⟨ln, hln⟩ : ∃ q, t.L.length = q := ⟨_, rfl⟩
  rw [hkn] at r0
  rw [hrn] at ta hi
  have i0 : (i : Int) < rn := by omega
  have i1 : (0 : Int) ≤ i := by omega
  obtain ⟨q, hq⟩ : ∃ q, blockP t.tb i = q := ⟨_, rfl⟩
  rw [hq]
  have HQ := Lib.hid hq
  have hbk : blockP t.tb i = if (fReadP t.L r.fro).2.2 ≠ 0 ∨ (fReadP t.L r.fro).2.1 ≠ r.tu then none
    else match unpackE (fReadP t.L r.fro).1 with
      | none => none
      | some l => if fitsP t.tb i r.rd l then some l else none := by
    unfold blockP
    rw [show t.tb.rows[i]? = some r.rd by simp [Tm.tb, hr]]
    rfl
  rw [hq] at hbk
  have HLN := Lib.hid hln
  have HCD := Lib.hid hcd
  have HM : Hid (∀ W, Below w.heap.size w W → W.heap[t.mb]? = some (.map es.toArray ck)) := Lib.hid (fun W hb => obj_kept hm hb (Nat.le_refl _))
  have HTC : Hid (∀ W, Below w.heap.size w W → W.cell? ⟨t.b, 0, none⟩ = some (.slice t.da ln t.dc) ∧ W.cell? ⟨t.b, 4, none⟩ = some (.map (some t.mb))) := Lib.hid (fun W hb => by
    have t1 := tbl_cells (d := .slice t.da t.L.length t.dc) (g := .slice t.ga t.K.length t.gc) (ra := t.ra) (rn := t.R.length) (rc := t.rc) (mb := t.mb) (cnt := t.cnt) (HT.out W hb).blk
    rw [HLN.out] at t1
    exact ⟨t1.1.1, t1.1.2.2.2.2⟩)
  obtain ⟨w1, hw1⟩ : ∃ w1, w.alloc (.cells #[.slice r.k.a kn r.k.c, .int .i64 r.s, .bool false, .slice none 0 0, .int .i64 r.n, .int .i64 r.fro, .int .i64 r.tu] 100) = w1 := ⟨_, rfl⟩
  have B1 : Hid (Below w.heap.size w w1) := Lib.hid (hw1 ▸ below_new _ _)
  have BW : Hid (∀ W, Below w1.heap.size w1 W → Below w.heap.size w W) := Lib.hid (fun W hb => B1.out.trans (hb.mono B1.out.size))
  have HB : Hid (∀ W : World, Below w1.heap.size w1 W → W.cell? ⟨w.heap.size, 5, none⟩ = some (.int .i64 r.fro) ∧ W.cell? ⟨w.heap.size, 6, none⟩ = some (.int .i64 r.tu)) := Lib.hid (fun W hb => by
    obtain ⟨⟨-, -, -, -, -, c5, c6⟩, -⟩ := seven_facts (obj_kept (by rw [← hw1]; exact heap_alloc_new w _) hb (Nat.le_refl _))
    exact ⟨c5, c6⟩)
  have HW1 := Lib.hid hw1
  have HLK : Hid (∀ W, Below w.heap.size w W → (Instr.lookup 102 (.map (some t.mb)) (.agg #[.int .i64 r.fro, .int .i64 r.tu]) true).run Tryz.prog W = .ok (.tuple #[match hitP r.fro r.tu es with | some p => p.2 | none => .slice none 0 0, .bool (hitP r.fro r.tu es).isSome]) W) := Lib.hid (fun W hb => look_place t.mb r.fro r.tu es ck W (HM.out W hb) hcd.keys)
  have HBK := Lib.hid hbk
  clear t1 hra hrn hkn hln hbk hq hw1 hm hr h hcs hwc hS
  cases hh : hitP r.fro r.tu es with
  | some p =>
    rw [hh] at HLK
    obtain ⟨e, he1, he2, he3⟩ := hit_mem hh
    obtain ⟨f, u, A, l, c, f1, f2, f3, f4, f6, f7⟩ := HCS.out e he1
    obtain ⟨ef, eu⟩ := plV_inj.1 (he2.symm.trans f1)
    have HQL : Hid (q = some (ers l)) := Lib.hid (by rw [← HQ.out]; exact f7 i r HR.out ef eu)
    have HP2 : Hid (p.2 = .slice A l.length c) := Lib.hid (he3.symm.trans f2)
    simp only [Option.isSome_some, HP2.out] at HLK
    have HF := Lib.hid (And.intro f3 (And.intro f4 f6))
    clear hh he1 he2 he3 f1 f2 f3 f4 f6 f7 ef eu hcd
    go_enter Tryz.func73, Tryz.ntmps73
    go_upto_region 2 with fail
    rw [HW1.out]
    go_region_held3 (fun W => (W.cell? ⟨t.b, 4, none⟩ = some (.map (some t.mb)) ∧ W.cell? ⟨w.heap.size, 5, none⟩ = some (.int .i64 r.fro) ∧ W.cell? ⟨w.heap.size, 6, none⟩ = some (.int .i64 r.tu)) ∧ (Instr.lookup 102 (.map (some t.mb)) (.agg #[.int .i64 r.fro, .int .i64 r.tu]) true).run Tryz.prog W = .ok (.tuple #[.slice A l.length c, .bool true]) W) (first | (refine ⟨⟨(HTC.out _ (BW.out _ ?_)).2, HB.out _ ?_⟩, HLK.out _ (BW.out _ ?_)⟩ <;> (repeat (first | exact Below.refl _ _ | refine Below.drew ?_ | refine below_al ?_ _))) | go_keep) (fail)
    go_wp2_with fail
    go_ret2
    have D := BW.out w1.drew (Below.refl _ _).drew
    exact rdW_some HQL.out (Tw.of_below D) (HTW.out.kept D) (fun V k => HF.out.2.1 V ((AgX.of_below D).trans k)) HF.out.2.2 HF.out.1
  | none =>
    rw [hh] at HLK
    simp only [Option.isSome_none] at HLK
    obtain ⟨p1, p2, p3⟩ := fRead_facts (L := t.L) (a := r.fro) HY.out
    have HF : Hid (∀ W, Below w.heap.size w W → Calls Tryz.prog 90 #[.slice t.da ln t.dc, .int .i64 r.fro] W (Got W (fReadP t.L r.fro))) := Lib.hid (fun W hb => by
      have := (HT.out W hb).data
      rw [HLN.out] at this
      exact readF_any t.da t.L ln t.dc r.fro W this)
    unfold Got at HF
    generalize fReadP t.L r.fro = z at HF HBK p1 p2 p3
    obtain ⟨P, nx, er⟩ := z
    simp only at HF HBK p1 p2 p3
    have P1 := Lib.hid p1
    have HUN : Hid (∀ A c W, In W A P P.length c → Calls Tryz.prog 93 #[.slice A P.length c] W (UnE W (unpackE P))) := Lib.hid (fun A c W hi => unpack_any A P _ c W hi p2)
    obtain ⟨pn, hpn⟩ : ∃ z, P.length = z := ⟨_, rfl⟩
    rw [hpn] at HF HUN
    have HPN := Lib.hid hpn
    unfold UnE at HUN
    generalize unpackE P = u at HUN HBK
    have HHIT := Lib.hid hh
    clear p1 p2 p3 hpn hh
    have CC := Lib.hid (Below.refl w1.heap.size w1)
    go_enter Tryz.func73, Tryz.ntmps73
    go_upto_region 2 with fail
    rw [HW1.out]
    go_region_held3 (fun W => (W.cell? ⟨t.b, 4, none⟩ = some (.map (some t.mb)) ∧ W.cell? ⟨w.heap.size, 5, none⟩ = some (.int .i64 r.fro) ∧ W.cell? ⟨w.heap.size, 6, none⟩ = some (.int .i64 r.tu)) ∧ (Instr.lookup 102 (.map (some t.mb)) (.agg #[.int .i64 r.fro, .int .i64 r.tu]) true).run Tryz.prog W = .ok (.tuple #[.slice none 0 0, .bool false]) W) (first | (refine ⟨⟨(HTC.out _ (BW.out _ ?_)).2, HB.out _ ?_⟩, HLK.out _ (BW.out _ ?_)⟩ <;> (repeat (first | exact Below.refl _ _ | refine Below.drew ?_ | refine below_al ?_ _))) | go_keep) (fail)
    go_upto_region 5 with fail
    go_region_held3 (fun W => W.cell? ⟨t.b, 0, none⟩ = some (.slice t.da ln t.dc) ∧ W.cell? ⟨w.heap.size, 5, none⟩ = some (.int .i64 r.fro)) (first | exact ⟨(HTC.out _ (BW.out _ CC.out)).1, (HB.out _ CC.out).1⟩ | exact ⟨(HTC.out _ (BW.out _ (by repeat (first | exact Below.refl _ _ | refine Below.drew ?_ | refine below_al ?_ _) : Below w1.heap.size w1 _))).1, (HB.out _ (by repeat (first | exact Below.refl _ _ | refine Below.drew ?_ | refine below_al ?_ _) : Below w1.heap.size w1 _)).1⟩ | go_keep) (first | (go_at_call 90; refine (HF.out _ (BW.out _ (by repeat (first | exact Below.refl _ _ | refine Below.drew ?_ | refine below_al ?_ _) : Below w1.heap.size w1 _))).mono ?_; rintro e w4 ⟨A4, c4, rfl, r4, b4⟩; have R4 := Lib.hid r4; replace CC := Lib.hid (below_then (by repeat (first | exact Below.refl _ _ | refine Below.drew ?_ | refine below_al ?_ _) : Below w1.heap.size w1 _) b4); clear r4 b4))
    obtain ⟨-, c6⟩ := HB.out w4 CC.out
    have BC := Lib.hid (BW.out _ CC.out)
    have BD : Hid (∀ W, Below w4.heap.size w4 W → Below w.heap.size w W) := Lib.hid (fun W hb => BW.out _ (CC.out.trans (hb.mono CC.out.size)))
    by_cases g0 : er = 0
    · have g0' : (er != 0) = false := by simpa using g0
      by_cases g1 : nx = r.tu
      · have g1' : (nx != r.tu) = false := by simpa using g1
        have HBK2 := Lib.hid HBK.out
        rw [if_neg (by simp only [not_or, Decidable.not_not]; exact ⟨g0, g1⟩)] at HBK2
        have I4 : Hid (In w4 A4 P P.length c4) := Lib.hid (R4.out.in_ P1.out)
        rw [HPN.out] at I4
        have HUW := Lib.hid (HUN.out A4 c4 w4 I4.out)
        clear g0 g1 HBK HUN I4
        cases u with
        | none =>
          have HE : Hid (q = none) := Lib.hid HBK2.out
          go_wp2_with (go_at_call 93; refine HUW.out.mono ?_; rintro e w5 ⟨b5, A5, n5, c5, rfl⟩; have B5 := Lib.hid b5; clear b5)
          go_ret2
          have h0 := HTW.out
          exact rdW_none HE.out h0 (BD.out _ B5.out)
        | some l =>
          have HBK3 : Hid (q = if fitsP t.tb i r.rd l then some l else none) := Lib.hid HBK2.out
          obtain ⟨b, hb⟩ : ∃ b, fitsP t.tb i r.rd l = b := ⟨_, rfl⟩
          rw [hb] at HBK3
          have HFB := Lib.hid hb
          clear HBK2 hb
          obtain ⟨m, hm⟩ : ∃ m, l.length = m := ⟨_, rfl⟩
          have HM9 := Lib.hid hm
          clear hm
          have HFT : Hid (∀ A l' c W, ers l' = l → Lies W A (evals l') → EIns W l' → l'.length ≤ c → (c : Int) ≤ 9223372036854775807 → Below w.heap.size w W → Calls Tryz.prog 94 #[.pointer (some ⟨t.b, 0, none⟩), .int .i64 i, .slice A m c] W fun e w' => e = .returned (.bool b) ∧ Below W.heap.size W w') := Lib.hid (fun A l' c W e h1 h2 h3 h4 hb => by
            have e2 : l'.length = m := by rw [← HM9.out, ← e, ers_len]
            have := fits_any t i r A l' m c W (HT.out W hb).c HR.out e2 h1 h2 (e2 ▸ h3) h4
            rwa [e, HFB.out] at this)
          cases b with
          | false =>
            have HE : Hid (q = none) := Lib.hid HBK3.out
            go_wp2_with (first
              | (go_at_call 93; refine HUW.out.mono ?_; rintro e w5 ⟨b5, l', A5, c5, e5, rfl, m5, r5, y5, f5⟩; rw [show l'.length = m by rw [← HM9.out, ← e5, ers_len]]; have X5 := Lib.hid (And.intro e5 (And.intro r5.lies (And.intro (m5.ins (fun p hp => y5 p (e5 ▸ hp))) (own_cap r5)))); have B5 := Lib.hid b5; clear b5 e5 m5 r5 y5 f5)
              | (go_at_call 94; refine (HFT.out A5 l' c5 w5 X5.out.1 X5.out.2.1 X5.out.2.2.1 X5.out.2.2.2.1 X5.out.2.2.2.2 (BD.out _ B5.out)).mono ?_; rintro e w6 ⟨rfl, b6⟩; have B6 := Lib.hid (below_then B5.out b6); clear b6))
            go_ret2
            have h0 := HTW.out
            exact rdW_none HE.out h0 (BD.out _ B6.out)
          | true =>
            have HE : Hid (q = some l) := Lib.hid HBK3.out
            go_upto_region 11 with (first
              | (go_at_call 93; refine HUW.out.mono ?_; rintro e w5 ⟨b5, l', A5, c5, e5, rfl, m5, r5, y5, f5⟩; rw [show l'.length = m by rw [← HM9.out, ← e5, ers_len]]; have X5 := Lib.hid (And.intro e5 (And.intro r5.lies (And.intro (m5.ins (fun p hp => y5 p (e5 ▸ hp))) (own_cap r5)))); have F5 := Lib.hid f5; have M5 := Lib.hid m5; have W5 := Lib.hid r5; have Y5 := Lib.hid (fun p hp => y5 p (e5 ▸ hp)); have B5 := Lib.hid b5; clear b5 e5 m5 r5 y5 f5)
              | (go_at_call 94; refine (HFT.out A5 l' c5 w5 X5.out.1 X5.out.2.1 X5.out.2.2.1 X5.out.2.2.2.1 X5.out.2.2.2.2 (BD.out _ B5.out)).mono ?_; rintro e w6 ⟨rfl, b6⟩; have B56 := Lib.hid b6; have B6 := Lib.hid (below_then B5.out b6); clear b6))
            have BF : Hid (Below w.heap.size w w6.drew) := Lib.hid (BD.out _ B6.out.drew)
            have HUP : Hid ((Instr.mapUpdate 102 (.map (some t.mb)) (.agg #[.int .i64 r.fro, .int .i64 r.tu]) (.slice A5 m c5)).run Tryz.prog w6.drew = .ok () (mapW w6.drew t.mb (es ++ [⟨plV r.fro r.tu, .slice A5 m c5, ck⟩]) (ck + 1))) := Lib.hid (put_place t.mb r.fro r.tu _ es ck _ (HM.out _ BF.out) HCD.out.keys HHIT.out)
            have hup := HUP.out
            obtain ⟨-, c4b⟩ := HTC.out w6 (BD.out _ B6.out)
            obtain ⟨c5b, c6b⟩ := HB.out w6 (CC.out.trans (B6.out.mono CC.out.size))
            clear c6
            go_region
            generalize hw8 : mapW w6.drew t.mb (es ++ [⟨plV r.fro r.tu, .slice A5 m c5, ck⟩]) (ck + 1) = w8
            have HW8 := Lib.hid hw8
            clear hw8 hup c4b c5b c6b
            go_wp2_with fail
            go_ret2
            have hT := HTW.out.kept BF.out
            have hP := Tw.put w6.drew t.mb (es ++ [⟨plV r.fro r.tu, .slice A5 m c5, ck⟩]) (ck + 1)
            have hm := HM.out _ BF.out
            have e2 : l'.length = m := by rw [← HM9.out, ← X5.out.1, ers_len]
            rw [HW8.out] at hP
            have hq : q = some (ers l') := by rw [HE.out, X5.out.1]
            have hmb : t.mb < w4.heap.size := Nat.lt_of_lt_of_le hmlt.out BC.out.size
            have hSS : ∀ g, S g → g < w4.heap.size := fun g hg => Nat.lt_of_lt_of_le (HSS.out g hg) BC.out.size
            have hR : ∀ V, AgX S t.mb w8 V → Lies V A5 (evals l') ∧ EIns V l' := fun V k => by
              have k5 : AgX S t.mb w5 V := ((AgX.of_below (B56.out.drew)).trans (AgX.of_tw hP)).trans k
              have hE : Erow V w4.heap.size A5 c5 l' := own_agx W5.out k5 hSS hmb
              exact ⟨hE.lies, fun q hq => ⟨(row_agx (M5.out q hq).1 k5 hSS hmb).in_ (Y5.out _ (List.mem_map_of_mem hq)).1, (row_agx (M5.out q hq).2 k5 hSS hmb).in_ (Y5.out _ (List.mem_map_of_mem hq)).2⟩⟩
            rw [← e2]
            refine rdW_some hq ((Tw.of_below BF.out).trans hP) ⟨fun V k => HWC.out V (((AgX.of_below BF.out).trans (AgX.of_tw hP)).trans k), es ++ [⟨plV r.fro r.tu, .slice A5 l'.length c5, ck⟩], ck + 1, ?_, ?_⟩ hR F5.out X5.out.2.2.2
            · rw [← HW8.out, e2]
              exact mapW_get hm _ _
            · exact CachedS.snoc (HCS.out.less (fun U k => ((AgX.of_below BF.out).trans (AgX.of_tw hP)).trans k)) hT.at_.ok HY.out HR.out (by rw [HQ.out]; exact hq) hR F5.out X5.out.2.2.2
      · have g1' : (nx != r.tu) = true := by simpa using g1
        have HE : Hid (q = none) := Lib.hid (by rw [HBK.out, if_pos (.inr g1)])
        clear g0 g1 HUN HBK
        go_wp2_with fail
        go_ret2
        have h0 := HTW.out
        exact rdW_none HE.out h0 BC.out
    · have g0' : (er != 0) = true := by simpa using g0
      have HE : Hid (q = none) := Lib.hid (by rw [HBK.out, if_pos (.inl g0)])
      clear g0 HUN HBK
      go_wp2_with fail
      go_ret2
      have h0 := HTW.out
      exact rdW_none HE.out h0 BC.out
end Go.Proofs.YtmgggddnfeojmaaGreat
namespace Go.Proofs.YtmgggddnfeojmaaGreat
open Go.RowKit Go.Shelf
theorem behindN_at {e : Er} : ∀ {l : List Rw} {r : Rw}, l[behindN e l]? = some r → ¬ ordE r.first e ≤ 0
  | [], r, h => by simp [behindN] at h
  | y :: l, r, h => by
    unfold behindN at h
    split at h
    · exact behindN_at (by simpa using h)
    · next hy =>
      simp at h
      subst h
      exact hy
/-- Whether a row begins behind e. -/
theorem behind_thr {t : Tm} {e : Er} {m : Nat} {r : Rm} (ho : ∀ (i j : Nat) (r s : Rm), i < j → t.R[i]? = some r → t.R[j]? = some s → ordE r.rd.first s.rd.first < 0) (hr : t.R[m]? = some r) : decide (0 < ordE r.rd.first e) = decide (behindN e t.tb.rows ≤ m) := by
  have hr' : t.tb.rows[m]? = some r.rd := by simp [Tm.tb, hr]
  by_cases h : m < behindN e t.tb.rows
  · have := behindN_under h hr'
    rw [decide_eq_false (by omega), decide_eq_false (by omega)]
  · have hm := (List.getElem?_eq_some_iff.1 hr).1
    have hlt : behindN e t.tb.rows < t.R.length := by omega
    have hs := List.getElem?_eq_getElem hlt
    generalize t.R[behindN e t.tb.rows] = s at hs
    have h2 := behindN_at (e := e) (l := t.tb.rows) (r := s.rd) (by simp [Tm.tb] at hs ⊢; simp [hs])
    have h3 : 0 < ordE r.rd.first e := by
      rcases Nat.lt_or_ge (behindN e t.tb.rows) m with g | g
      · have h4 := ho _ _ _ _ g hs hr
        have h5 : ordE e s.rd.first < 0 := by rw [ordE_flip]; omega
        have h6 := ordE_trans h5 h4
        rw [ordE_flip] at h6
        omega
      · have : behindN e t.tb.rows = m := by omega
        rw [this, hr] at hs
        injection hs with hs
        rw [hs]
        omega
    rw [decide_eq_true h3, decide_eq_true (by omega)]
theorem seek_thr {l : List Er} {e y : Er} {m : Nat} (ho : OrdL l) (hy : l[m]? = some y) : decide (0 ≤ ordE y e) = decide (seekN e l ≤ m) := by
  by_cases h : m < seekN e l
  · have := seekN_under h hy
    rw [decide_eq_false (by omega), decide_eq_false (by omega)]
  · have := seekN_rest (e := e) ho y (List.mem_of_getElem? (i := m - seekN e l) (by rw [List.getElem?_drop, show seekN e l + (m - seekN e l) = m by omega]; exact hy))
    rw [decide_eq_true (by omega), decide_eq_true (by omega)]
theorem goF_bad {t : Tb} {e : Er} {f i : Nat} (h : blockP t i = none) : goF t e (f + 1) i = ([], true) := by
  unfold goF
  rw [h]
theorem goF_ok {t : Tb} {e : Er} {f i : Nat} {l : List Er} (h : blockP t i = some l) : goF t e (f + 1) i = (l.drop (seekN e l) ++ (goF t e f (i + 1)).1, (goF t e f (i + 1)).2) := by
  conv => lhs; unfold goF
  rw [h]
theorem blockP_ord {t : Tb} {i : Nat} {l : List Er} (h : blockP t i = some l) : OrdL l := by
  unfold blockP at h
  split at h
  · cases h
  · split at h
    · cases h
    · split at h
      · cases h
      · next hu =>
        split at h
        · injection h with h
          exact h ▸ unpackE_ord hu
        · cases h
theorem max_c {c : Nat} (h : c ≤ 2305843009213693952) : max (wrap64 (c : Int)) 0 = c := by
  unfold wrap64
  omega
theorem sizeEn (W : World) : (sizeOf (Tryz.prog.elem 22)).run Tryz.prog W = .ok 4 W := by
  have h : Tryz.prog.elem 22 = 48 := by kernel_rfl
  obtain ⟨i, hi, hz0, hz1, hz2⟩ := info_parts info48
  rw [h]
  simp [sizeOf, typeInfo, hi, hz1]
theorem underEn : Tryz.prog.underlying 22 = some (.slice (Tryz.prog.elem 22)) := by kernel_rfl
/-- e[s:] -/
theorem slice_lowE (A : Option Addr) (s n c : Nat) (hs : s ≤ n) (hc : n ≤ c) : ∀ W, (Instr.slice 22 (.slice A n c) (some (.int .i64 (s : Int))) none none).run Tryz.prog W = .ok (.slice (if c = s then A else A.map (·.add (s * 4))) (n - s) (c - s)) W := fun W => by
  rw [run_slice_l (P := Tryz.prog) W _ A n c underEn .i64 (s : Int) (by omega) (by omega), sizeEn]
  simp [Result.andThen, sliced]
theorem blockP_len {t : Tm} {i : Nat} {l : List Er} (ho : RowsOk t.L.length t.R) (h : blockP t.tb i = some l) : l.length ≤ 1024 := by
  unfold blockP at h
  split at h
  · cases h
  · next r hr =>
    split at h
    · cases h
    · split at h
      · cases h
      · split at h
        · next hf =>
          injection h with h
          subst h
          obtain ⟨r', hr', rfl⟩ : ∃ r', r' ∈ t.R ∧ r = Rm.rd r' := by
            have := List.mem_of_getElem? hr
            obtain ⟨r', h1, h2⟩ := List.mem_map.1 this
            exact ⟨r', h1, h2.symm⟩
          have hn := (ho.fit r' hr').2.2
          unfold fitsP at hf
          simp only [Bool.and_eq_true, decide_eq_true_eq] at hf
          have h9 := hf.1
          simp only [Rm.rd] at h9
          omega
        · cases h
/-- What is nobody's own stays nobody's own, and stays. -/
def Fr (Cl : World → Nat → Prop) (W W' : World) : Prop := ∀ g o, W.heap[g]? = some o → ¬ Cl W g → W'.heap[g]? = some o ∧ ¬ Cl W' g
theorem AgX.fr {Cl : World → Nat → Prop} {mb : Nat} {W W' V : World} (h : Fr Cl W W') (k : AgX (Cl W') mb W' V) : AgX (Cl W) mb W V := fun g o e hs hm => k g o (h g o e hs).1 (h g o e hs).2 hm
theorem TabW.less {S S' : Nat → Prop} {W : World} {t : Tm} (h : TabW S W t) (k : ∀ g, S' g → S g) : TabW S' W t := by
  obtain ⟨h1, es, ck, h2, h3⟩ := h
  exact ⟨fun V q => h1 V (q.less (fun g _ => k g)), es, ck, h2, h3.less (fun U q => q.less (fun g _ => k g))⟩
/-- Entries that hang on nobody's own. -/
def Rob (Cl : World → Nat → Prop) (mb : Nat) (W : World) (A : Option Addr) (l : List En) : Prop := ∀ V, AgX (Cl W) mb W V → Lies V A (evals l) ∧ EIns V l
theorem Rob.here {Cl : World → Nat → Prop} {mb : Nat} {W : World} {A : Option Addr} {l : List En} (h : Rob Cl mb W A l) : Lies W A (evals l) ∧ EIns W l := h W (AgX.refl _ _ _)
theorem Rob.tw {Cl : World → Nat → Prop} {mb : Nat} {W W' : World} {A : Option Addr} {l : List En} (h : Rob Cl mb W A l) (ht : Tw mb W W') (hc : ∀ g, Cl W' g → Cl W g) : Rob Cl mb W' A l := fun V k => h V ((AgX.of_tw ht).trans (k.less (fun g _ => hc g)))
theorem Rob.fr {Cl : World → Nat → Prop} {mb : Nat} {W W' : World} {A : Option Addr} {l : List En} (h : Rob Cl mb W A l) (hf : Fr Cl W W') : Rob Cl mb W' A l := fun V k => h V (AgX.fr hf k)
theorem Rob.drop {Cl : World → Nat → Prop} {mb : Nat} {W : World} {A : Option Addr} {l : List En} {c : Nat} (h : Rob Cl mb W A l) (s : Nat) (hc : l.length ≤ c) : Rob Cl mb W (if c = s then A else A.map (·.add (s * 4))) (l.drop s) := fun V k => ⟨lies_drop (h V k).1 s c hc, fun q hq => (h V k).2 q (List.mem_of_mem_drop hq)⟩
/-- Whoever asks: what he holds while so many have been told (K), what he holds when he has left (Kx), what is his own (Cl). -/
structure Asks (t : Tm) (x : En) (tb eb N l : Nat) (stop : Nat → Bool) (K Kx : Nat → World → Prop) (Cl : World → Nat → Prop) : Prop where
  box : ∀ j W, K j W → W.cell? ⟨tb, 0, none⟩ = some (.pointer (some ⟨t.b, 0, none⟩)) ∧ EBox W eb x ∧ EIn W x
  own : ∀ j W, K j W → (∀ g, Cl W g → g < W.heap.size) ∧ ¬ Cl W t.mb
  stay : ∀ j W W', K j W → MapAt W t.mb → Tw t.mb W W' → K j W' ∧ ∀ g, Cl W' g → Cl W g
  yes : ∀ j W (y : En), (goP t.tb x.rd).1[j]? = some y.rd → stop j = false → K j W → TabW (Cl W) W t → EIn W y → EFit y → YieldAt Fence.wide N Tryz.prog l #[y.val, .int .i64 0] W fun e W' => e = .returned (.bool true) ∧ K (j + 1) W' ∧ Fr Cl W W'
  no : ∀ j W (y : En), (goP t.tb x.rd).1[j]? = some y.rd → stop j = true → K j W → TabW (Cl W) W t → EIn W y → EFit y → YieldAt Fence.wide N Tryz.prog l #[y.val, .int .i64 0] W fun e W' => e = .returned (.bool false) ∧ Kx j W' ∧ Fr Cl W W'
  bad : ∀ W, (goP t.tb x.rd).2 = true → K (goP t.tb x.rd).1.length W → TabW (Cl W) W t → YieldAt Fence.wide N Tryz.prog l #[.agg #[.slice none 0 0, .int .i64 0, .bool false, .slice none 0 0], .int .i64 11] W fun e W' => e = .returned (.bool false) ∧ Kx (goP t.tb x.rd).1.length W' ∧ Fr Cl W W'
/-- Where the going over has been left. -/
def LeftAt (p : List Er × Bool) (stop : Nat → Bool) (s : Nat) : Prop := (∀ i, i < s → stop i = false) ∧ ((s < p.1.length ∧ stop s = true) ∨ (s = p.1.length ∧ p.2 = true))
/-- What he holds and the table beside. -/
def Both (t : Tm) (K : Nat → World → Prop) (Cl : World → Nat → Prop) (j : Nat) (W : World) : Prop := K j W ∧ TabW (Cl W) W t
theorem Asks.tw {t : Tm} {x : En} {tb eb N l : Nat} {stop : Nat → Bool} {K Kx : Nat → World → Prop} {Cl : World → Nat → Prop} (h : Asks t x tb eb N l stop K Kx Cl) {j : Nat} {W W' : World} (hb : Both t K Cl j W) (hw : Below W.heap.size W W') : Both t K Cl j W' ∧ ∀ g, Cl W' g → Cl W g := by
  obtain ⟨h1, h2⟩ := h.stay j W W' hb.1 hb.2.at_.mapAt (Tw.of_below hw)
  exact ⟨⟨h1, (hb.2.kept hw).less h2⟩, h2⟩
end Go.Proofs.YtmgggddnfeojmaaGreat
namespace Go.Proofs.YtmgggddnfeojmaaGreat
open Go.RowKit Go.Shelf
attribute [local go_sem] Oper.semAt_some
set_option maxRecDepth 100000 in
set_option maxHeartbeats 16000000 in
theorem from_iter (N l tb eb : Nat) (t : Tm) (x : En) (stop : Nat → Bool) (K Kx : Nat → World → Prop) (Cl : World → Nat → Prop) (hA : Asks t x tb eb N l stop K Kx Cl) (hrl : t.R.length ≤ 2305843009213693952) (W : World) (h0 : Both t K Cl 0 W) :
    CallsIn Fence.wide (N + 1) Tryz.prog 70 (#[.func (.yield l) #[] #[]] ++ #[.pointer (some ⟨tb, 0, none⟩), .pointer (some ⟨eb, 0, none⟩)]) W fun e W' => (∃ v, e = .returned v) ∧ (((goP t.tb x.rd).2 = false ∧ (∀ i, i < (goP t.tb x.rd).1.length → stop i = false) ∧ K (goP t.tb x.rd).1.length W') ∨ (∃ s, LeftAt (goP t.tb x.rd) stop s ∧ Kx s W')) ∧ TabW (Cl W') W' t := by
  refine callsIn_of_wp Tryz.func70 rfl trivial ?_ rfl
  simp only [Tryz.ntmps70, List.size_toArray, List.length_cons, List.length_nil, Nat.reduceAdd, Nat.reduceSub, Array.replicate_succ, Array.replicate_zero, List.push_toArray, List.append_toArray, List.nil_append, List.cons_append]
  have HA := Lib.hid hA
  have HB0 := Lib.hid h0
  have HRL := Lib.hid hrl
  obtain ⟨p, hp⟩ : ∃ p, goP t.tb x.rd = p := ⟨_, rfl⟩
  rw [hp]
  have HP := Lib.hid hp
  obtain ⟨rn, hrn⟩ : ∃ q, t.R.length = q := ⟨_, rfl⟩
  have HRN := Lib.hid hrn
  obtain ⟨c0, hc0⟩ : ∃ q, behindN x.rd t.tb.rows = q := ⟨_, rfl⟩
  have HC0 := Lib.hid hc0
  have HCL : Hid (c0 ≤ rn) := Lib.hid (by have := behindN_le x.rd t.tb.rows; rw [hc0] at this; simpa [Tm.tb, hrn] using this)
  have HGO : Hid (p = goF t.tb x.rd (rn - (c0 - 1)) (c0 - 1)) := Lib.hid (by rw [← hp]; unfold goP; rw [hc0]; simp [Tm.tb, hrn])
  obtain ⟨b1, b2, b3⟩ := hA.box 0 W h0.1
  have t1 := tbl_cells (d := .slice t.da t.L.length t.dc) (g := .slice t.ga t.K.length t.gc) (ra := t.ra) (rn := t.R.length) (rc := t.rc) (mb := t.mb) (cnt := t.cnt) h0.2.at_.blk
  have ta := t1.1.2.1
  rw [hrn] at ta
  have HSR : Hid (Calls Tryz.prog 71 #[.int .i64 rn, .func (.func 72) #[] #[.pointer (some ⟨tb, 0, none⟩), .pointer (some ⟨eb, 0, none⟩)]] W fun e w' => e = .returned (.int .i64 c0) ∧ Below W.heap.size W w') := Lib.hid (search_any rn c0 _ _ W HCL.out (hrn ▸ hrl) (enters_of Tryz.func72 (by kernel_rfl) rfl) (fun m hm V hb => by
    have hr := List.getElem?_eq_getElem (l := t.R) (i := m) (by omega)
    generalize t.R[m]'(by omega) = r at hr
    have := seekRow_any t x m tb eb r V (h0.2.at_.c.kept hb) hr (cell_below b1 hb) (b2.kept hb) (b3.kept hb)
    rw [behind_thr h0.2.at_.ord hr, hc0] at this
    exact this))
  clear t1 hp hrn hc0 hrl b2 b3 hA h0
  obtain ⟨i0, hi0⟩ : ∃ q, c0 - 1 = q := ⟨_, rfl⟩
  rw [hi0] at HGO
  have HI0 : Hid (i0 ≤ rn ∧ c0 ≤ i0 + 1) := Lib.hid (by have := HCL.out; omega)
  have hcase : c0 = 0 ∨ ∃ c1, c0 = c1 + 1 := by rcases Nat.eq_zero_or_pos c0 with h | h; (exact .inl h); exact .inr ⟨c0 - 1, by omega⟩
  rcases hcase with rfl | ⟨c1, rfl⟩
  all_goals
    gi_wp2_with (refine ⟨trivial, ?_⟩; gi_at_call 71; refine (callsIn_wide.2 HSR.out).mono ?_; rintro e w1 ⟨rfl, b1⟩; have B1 := Lib.hid b1; clear b1)
    have HB1 := Lib.hid (HA.out.tw HB0.out B1.out).1
    have HI1 := Lib.hid hi0
    clear B1 HSR HB0 b1 ta HC0 HCL hi0
    gi_loopw [5] (fun t5 wr => ∃ (i j : Nat) (T : List Er), t5 = .int .i64 i ∧ i ≤ rn ∧ Hid (p.1 = T ++ (goF t.tb x.rd (rn - i) i).1 ∧ p.2 = (goF t.tb x.rd (rn - i) i).2 ∧ T.length = j) ∧ Hid (∀ k, k < j → stop k = false) ∧ Hid (Both t K Cl j wr)) (fun t5 _ => rn - (intOf t5).toNat)
    case atStart => exact ⟨i0, 0, [], by rw [← HI1.out]; first | (simp; done) | (simp; decide) | (simp; exact max_c (by have := HI0.out; have := HRL.out; have := HRN.out; omega)), HI0.out.1, Lib.hid ⟨by rw [HGO.out]; rfl, by rw [HGO.out], rfl⟩, Lib.hid (fun k hk => by omega), HB1⟩
    case round =>
      clear HB1
      obtain ⟨i, j, T, rfl, hi, HT, HST, HBO⟩ := hrel
      have hown := HA.out.own j wr HBO.out.1
      obtain ⟨b1, b2, b3⟩ := HA.out.box j wr HBO.out.1
      have t1 := tbl_cells (d := .slice t.da t.L.length t.dc) (g := .slice t.ga t.K.length t.gc) (ra := t.ra) (rn := t.R.length) (rc := t.rc) (mb := t.mb) (cnt := t.cnt) HBO.out.2.at_.blk
      have ta := t1.1.2.1
      rw [HRN.out] at ta
      have HOW := Lib.hid hown
      clear t1 b2 b3 hown
      by_cases hlt : i < rn
      · have hr := List.getElem?_eq_getElem (l := t.R) (i := i) (by have := HRN.out; omega)
        generalize t.R[i]'(by have := HRN.out; omega) = r at hr
        have HRD := Lib.hid (treadW_any (Cl wr) t i r wr HBO.out.2 HOW.out.1 hr)
        have j0 : (i : Int) < rn := by omega
        obtain ⟨f, hf⟩ : ∃ f, rn - i = f + 1 := ⟨rn - i - 1, by omega⟩
        have hf2 : rn - (i + 1) = f := by omega
        unfold RdW at HRD
        cases hq : blockP t.tb i with
        | none =>
          rw [hq] at HRD
          rw [hf, goF_bad hq] at HT
          clear hr hq hf hf2
          gi_wp2_with (refine ⟨trivial, ?_⟩; gi_at_call 73; refine (callsIn_wide.2 HRD.out).mono ?_; rintro e w1 ⟨⟨tw1, tW1⟩, A1, n1, c1', rfl⟩; have TW1 := Lib.hid tw1; have HW1 := Lib.hid tW1; clear tw1 tW1)
          obtain ⟨w2, hw2⟩ : ∃ w2, w1.alloc (.cells #[.slice A1 n1 c1'] 22) = w2 := ⟨_, rfl⟩
          have TW2 : Tw t.mb wr w2 := TW1.out.trans (Tw.of_below (hw2 ▸ below_new w1 _))
          have HS2 := HA.out.stay j wr w2 HBO.out.1 HBO.out.2.at_.mapAt TW2
          have TB2 : TabW (Cl w2) w2 t := (HW1.out.kept (hw2 ▸ below_new w1 _)).less HS2.2
          have HPF : Hid (p.2 = true ∧ p.1.length = j) := Lib.hid ⟨HT.out.2.1, by have h := HT.out; rw [h.1, List.append_nil]; exact h.2.2⟩
          have hbad := HA.out.bad w2
          rw [HP.out, HPF.out.2] at hbad
          obtain ⟨fn, tmps, assign, body, hy, hY⟩ := hbad HPF.out.1 HS2.1 TB2
          have HY := Lib.hid hY
          have HTB2 := Lib.hid TB2
          have HOW2 := Lib.hid (HA.out.own j w2 HS2.1)
          rw [hw2]
          clear hY hbad HS2 TB2 TW2 hw2
          gi_wp2
          rw [hy]
          refine ⟨fun h => by simp [Fence.wide] at h, ?_⟩
          refine HY.out.mono ?_
          rintro e W' ⟨rfl, K3, F3⟩
          have K3' := Lib.hid K3
          have F3' := Lib.hid F3
          clear K3 F3 HY hy
          gi_wp2
          refine bodyPost_ret (results_none rfl _ _ _) rfl ?_
          exact ⟨⟨_, rfl⟩, .inr ⟨j, ⟨HST.out, .inr ⟨HPF.out.2.symm, HPF.out.1⟩⟩, K3'.out⟩, HTB2.out.turn F3'.out HOW2.out.2⟩
        | some lb =>
          rw [hq] at HRD
          have HOL := Lib.hid (blockP_ord hq)
          have HLN := Lib.hid (blockP_len HBO.out.2.at_.ok hq)
          rw [hf, goF_ok hq, ← hf2] at HT
          clear hr hq hf hf2
          gi_wp2_with (first
            | (refine ⟨trivial, ?_⟩; gi_at_call 73; refine (callsIn_wide.2 HRD.out).mono ?_; rintro e w1 ⟨⟨tw1, tW1⟩, l1, A1, c1', e1, rfl, rb1, ft1, cp1, cp2⟩; have TW1 := Lib.hid tw1; have HW1 := Lib.hid tW1; have E1 := Lib.hid e1; have RB1 := Lib.hid rb1; have FT1 := Lib.hid ft1; have CP1 := Lib.hid (And.intro cp1 cp2); clear tw1 tW1 e1 rb1 ft1 cp1 cp2))
          obtain ⟨m, hm⟩ : ∃ m, l1.length = m := ⟨_, rfl⟩
          rw [hm]
          have HM := Lib.hid hm
          obtain ⟨w2, hw2⟩ : ∃ w2, w1.alloc (.cells #[.slice A1 m c1'] 22) = w2 := ⟨_, rfl⟩
          have b12 : Below w1.heap.size w1 w2 := hw2 ▸ below_new w1 _
          have hbx : w2.cell? ⟨w1.heap.size, 0, none⟩ = some (.slice A1 m c1') := by rw [← hw2]; exact lit_at w1 _ _ 0
          have TW2 : Tw t.mb wr w2 := TW1.out.trans (Tw.of_below b12)
          have HS2 := HA.out.stay j wr w2 HBO.out.1 HBO.out.2.at_.mapAt TW2
          have TB2 : TabW (Cl w2) w2 t := (HW1.out.kept b12).less HS2.2
          have RB2 : Rob Cl t.mb w2 A1 l1 := fun V k => RB1.out V ((AgX.of_below b12).trans (k.less (fun g _ => HS2.2 g)))
          obtain ⟨sN, hsN⟩ : ∃ q, seekN x.rd lb = q := ⟨_, rfl⟩
          have hsm : sN ≤ m := by have := seekN_le x.rd lb; rw [hsN] at this; rw [← E1.out, ers_len] at this; omega
          rw [hsN] at HT
          obtain ⟨-, x2, x3⟩ := HA.out.box j w2 HS2.1
          have HSE : Hid (Calls Tryz.prog 71 #[.int .i64 m, .func (.func 74) #[] #[.pointer (some ⟨w1.heap.size, 0, none⟩), .pointer (some ⟨eb, 0, none⟩)]] w2 fun e w' => e = .returned (.int .i64 sN) ∧ Below w2.heap.size w2 w') := Lib.hid (search_any m sN _ _ w2 hsm (by have := HLN.out; have := congrArg List.length E1.out; have := ers_len l1; omega) (enters_of Tryz.func74 (by kernel_rfl) rfl) (fun q hq V hb => by
            have hy := List.getElem?_eq_getElem (l := l1) (i := q) (by omega)
            generalize l1[q]'(by omega) = y at hy
            have := seekEntry_any A1 l1 m c1' x y q w1.heap.size eb V hm (RB2.here.1.kept hb) (RB2.here.2.kept hb) hy (cell_below hbx hb) (x2.kept hb) (x3.kept hb)
            rw [seek_thr HOL.out (by rw [← E1.out]; exact ers_get hy), hsN] at this
            exact this))
          have HBO2 : Hid (Both t K Cl j w2) := Lib.hid ⟨HS2.1, TB2⟩
          have HRB2 := Lib.hid RB2
          have HBX := Lib.hid hbx
          have hsl := slice_lowE A1 sN m c1' hsm (by have := CP1.out.1; omega)
          have hrd := fun W (h : Rob Cl t.mb W A1 l1) => h.drop sN CP1.out.1
          obtain ⟨A2, hA2⟩ : ∃ A2, (if c1' = sN then A1 else A1.map (·.add (sN * 4))) = A2 := ⟨_, rfl⟩
          simp only [hA2] at hsl hrd
          have HRDR := Lib.hid hrd
          obtain ⟨ld, hld⟩ : ∃ ld, l1.drop sN = ld := ⟨_, rfl⟩
          rw [hld] at HRDR
          obtain ⟨d, hd⟩ : ∃ d, m - sN = d := ⟨_, rfl⟩
          rw [hd] at hsl
          have HLD : Hid (ld.length = d ∧ ers ld = lb.drop sN ∧ ∀ q ∈ ld, EFit q) := Lib.hid ⟨by rw [← hld, List.length_drop, hm, hd], by rw [← hld, ers_drop, E1.out], fun q hq => FT1.out q (List.mem_of_mem_drop (hld ▸ hq))⟩
          have HD9 : Hid ((d : Int) ≤ 1024) := Lib.hid (by have := HLN.out; have := congrArg List.length E1.out; have := ers_len l1; omega)
          clear hrd hA2 hld hd
          rw [hw2]
          clear hw2 b12 hbx TW2 HS2 TB2 RB2 x2 x3 hm hsN HBO HRD RB1 HW1 TW1 ta b1 hsm
          refine ⟨trivial, ?_⟩
          refine (callsIn_wide.2 HSE.out).mono ?_
          rintro e w3 ⟨rfl, b3⟩
          have hbx := cell_below HBX.out b3
          have HBO3 := Lib.hid (HA.out.tw HBO2.out b3).1
          have HRB3 := Lib.hid (HRB2.out.tw (Tw.of_below b3) (HA.out.tw HBO2.out b3).2)
          clear b3 HSE HBO2 HRB2 HBX
          gi_wp2
          clear hsl hbx
          have HRB4 := Lib.hid (HRDR.out _ HRB3.out)
          clear HRB3 HRDR
          have hd9 := HD9.out
          gi_loopw [49] (fun t49 wi => ∃ k : Nat, t49 = .int .i64 k ∧ k ≤ d ∧ Hid (∀ q, q < j + k → stop q = false) ∧ Hid (Both t K Cl (j + k) wi) ∧ Hid (Rob Cl t.mb wi A2 ld)) (fun t49 _ => d - (intOf t49).toNat)
          case atStart => exact ⟨0, rfl, by omega, HST, HBO3, HRB4⟩
          case round =>
            clear HBO3 HRB4
            obtain ⟨k, rfl, hk, HSK, HBK, HRK⟩ := hrel
            by_cases hlt2 : k < d
            · have hy := List.getElem?_eq_getElem (l := ld) (i := k) (by have := HLD.out.1; omega)
              generalize ld[k]'(by have := HLD.out.1; omega) = y at hy
              obtain ⟨ad, rfl, y0, y1, y2, y3⟩ := lies_entry HRK.out.here.1 hy
              have HPY : Hid (p.1[j + k]? = some y.rd) := Lib.hid (by
                rw [HT.out.1, ← HT.out.2.2, List.getElem?_append_right (by omega), show T.length + k - T.length = k by omega, ← HLD.out.2.1, List.getElem?_append_left (by rw [ers_len, HLD.out.1]; exact hlt2)]
                exact ers_get hy)
              have HEY : Hid (EIn wr y) := Lib.hid (HRK.out.here.2 y (List.mem_of_getElem? hy))
              have HFY := Lib.hid (HLD.out.2.2 y (List.mem_of_getElem? hy))
              obtain ⟨yn, hyn⟩ : ∃ q, y.k.l.length = q := ⟨_, rfl⟩
              obtain ⟨yvn, hyvn⟩ : ∃ q, y.v.l.length = q := ⟨_, rfl⟩
              rw [hyn] at y0
              rw [hyvn] at y3
              have HYN := Lib.hid (And.intro hyn hyvn)
              clear hy hyn hyvn
              have k0 : (k : Int) < d := by omega
              obtain ⟨w4, hw4⟩ : ∃ w4, wr.alloc (.cells #[.slice y.k.a yn y.k.c, .int .i64 y.s, .bool y.d, .slice y.v.a yvn y.v.c] 48) = w4 := ⟨_, rfl⟩
              have b4 : Below wr.heap.size wr w4 := hw4 ▸ below_new wr _
              have hb4 := HA.out.tw HBK.out b4
              have HB4 := Lib.hid hb4.1
              have HR4 := Lib.hid (HRK.out.tw (Tw.of_below b4) hb4.2)
              have HE4 := Lib.hid (HEY.out.kept b4)
              have HW4 := Lib.hid hw4
              clear hb4 b4 hw4 HBK HRK HEY
              cases hst : stop (j + k) with
              | false =>
                have hyes := HA.out.yes (j + k) w4 y (by rw [HP.out]; exact HPY.out) hst HB4.out.1 HB4.out.2 HE4.out HFY.out
                rw [En.val_eq, HYN.out.1, HYN.out.2] at hyes
                obtain ⟨fn, tmps, assign, body, hy, hY⟩ := hyes
                have HY := Lib.hid hY
                have HSF := Lib.hid hst
                clear hY hst
                rw [← HW4.out] at hy
                gi_wp2
                rw [HW4.out]
                refine HY.out.mono ?_
                rintro e W' ⟨rfl, K3, F3⟩
                have HB5 : Hid (Both t K Cl (j + (k + 1)) W') := Lib.hid ⟨K3, HB4.out.2.turn F3 (HA.out.own _ _ HB4.out.1).2⟩
                have HR5 := Lib.hid (HR4.out.fr F3)
                have HS5 : Hid (∀ q, q < j + (k + 1) → stop q = false) := Lib.hid (fun q hq => by
                  rcases Nat.lt_or_ge q (j + k) with g | g
                  · exact HSK.out q g
                  · obtain rfl : q = j + k := by omega
                    exact HSF.out)
                clear K3 F3 HY hy HB4 HR4 HSK
                gi_wp2
                go_roundw
                case rel => exact ⟨k + 1, by go_num, by omega, HS5, HB5, HR5⟩
                case measure => simp [intOf]; omega
              | true =>
                have hno := HA.out.no (j + k) w4 y (by rw [HP.out]; exact HPY.out) hst HB4.out.1 HB4.out.2 HE4.out HFY.out
                rw [En.val_eq, HYN.out.1, HYN.out.2] at hno
                obtain ⟨fn, tmps, assign, body, hy, hY⟩ := hno
                have HY := Lib.hid hY
                have HSF := Lib.hid hst
                clear hY hst
                rw [← HW4.out] at hy
                gi_wp2
                rw [HW4.out]
                refine HY.out.mono ?_
                rintro e W' ⟨rfl, K3, F3⟩
                have K3' := Lib.hid K3
                have HTB5 := Lib.hid (HB4.out.2.turn F3 (HA.out.own _ _ HB4.out.1).2)
                clear K3 F3 HY hy
                gi_wp2
                refine bodyPost_ret (results_none rfl _ _ _) rfl ?_
                exact ⟨⟨_, rfl⟩, .inr ⟨j + k, ⟨HSK.out, .inl ⟨(List.getElem?_eq_some_iff.1 HPY.out).1, HSF.out⟩⟩, K3'.out⟩, HTB5.out⟩
            · obtain rfl : k = d := by omega
              have k0 : ¬ (k : Int) < k := by omega
              have HT2 : Hid (p.1 = (T ++ ers ld) ++ (goF t.tb x.rd (rn - (i + 1)) (i + 1)).1 ∧ p.2 = (goF t.tb x.rd (rn - (i + 1)) (i + 1)).2 ∧ (T ++ ers ld).length = j + k) := Lib.hid ⟨by rw [HT.out.1, HLD.out.2.1, List.append_assoc], HT.out.2.1, by rw [List.length_append, HT.out.2.2, ers_len, HLD.out.1]⟩
              have hrn9 : (rn : Int) ≤ 2305843009213693952 := by have := HRL.out; have := HRN.out; omega
              gi_wp2
              go_roundw
              case rel => exact ⟨i + 1, j + k, T ++ ers ld, by go_num, by omega, HT2, HSK, HBK⟩
              case measure => simp [intOf]; omega
      · obtain rfl : i = rn := by omega
        have j0 : ¬ (i : Int) < i := by omega
        have HF : Hid (p.1 = T ∧ p.2 = false) := Lib.hid (by have h := HT.out; rw [Nat.sub_self] at h; exact ⟨by rw [h.1]; simp [goF], h.2.1⟩)
        gi_wp2
        go_end0
        refine ⟨⟨_, rfl⟩, .inl ⟨HF.out.2, ?_, ?_⟩, HBO.out.2⟩
        · rw [HF.out.1, HT.out.2.2]
          exact HST.out
        · rw [HF.out.1, HT.out.2.2]
          exact HBO.out.1
end Go.Proofs.YtmgggddnfeojmaaGreat
namespace Go.Proofs.YtmgggddnfeojmaaGreat
open Go.RowKit Go.Shelf
theorem from_any (t : Option Addr) (ka va : Option Addr) (kn kc vn vc : Nat) (s : Int) (d : Bool) (w : World) : Calls Tryz.prog 44 #[.pointer t, .agg #[.slice ka kn kc, .int .i64 s, .bool d, .slice va vn vc]] w fun e w' => e = .returned (.func (.func 70) #[] #[.pointer (some ⟨w.heap.size, 0, none⟩), .pointer (some ⟨w.heap.size + 1, 0, none⟩)]) ∧ w' = (w.alloc (.cells #[.pointer t] 37)).alloc (.cells #[.slice ka kn kc, .int .i64 s, .bool d, .slice va vn vc] 48) := by
  go_enter Tryz.func44, Tryz.ntmps44
  go_wp2
  go_ret
  exact ⟨rfl, rfl⟩
set_option maxRecDepth 100000 in
theorem below_any (A C : Option Addr) (L H : List Int) (n m c d : Nat) (w : World) (h : In w A L n c) (g : In w C H m d) : Calls Tryz.prog 53 #[.slice A n c, .slice C m d] w fun e w' => e = .returned (.bool (decide (H = []) || decide (cmpL L H < 0))) ∧ w' = w := by
  have HC := Lib.hid (compare_any A C L H n m c d w h g)
  have hm := g.len
  by_cases h0 : m = 0
  · subst h0
    obtain rfl : H = [] := List.eq_nil_of_length_eq_zero hm
    clear h g hm HC
    go_enter Tryz.func53, Tryz.ntmps53
    go_wp2_with fail
    go_ret
    exact ⟨by simp, rfl⟩
  · have e1 : decide (H = []) = false := by
      rw [decide_eq_false_iff_not]
      intro e
      subst e
      exact h0 hm.symm
    have e2 : ((m : Int) == 0) = false := by simpa using h0
    rw [e1]
    obtain ⟨q, hq⟩ : ∃ q, cmpL L H = q := ⟨_, rfl⟩
    rw [hq] at HC ⊢
    clear h g hm h0 e1 hq
    go_enter Tryz.func53, Tryz.ntmps53
    go_wp2_with (go_at_call 77; refine HC.out.mono ?_; rintro e w' ⟨rfl, rfl⟩)
    go_ret
    exact ⟨by simp, rfl⟩
end Go.Proofs.YtmgggddnfeojmaaGreat
