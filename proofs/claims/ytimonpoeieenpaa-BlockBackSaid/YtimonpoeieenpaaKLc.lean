/-
  The laws: what is packed is unpacked, what is unpacked is packed as it was; each key is found.
-/
import Derived.Test.YtimonpoeieenpaaKWa
import Derived.Test.YtimonpoeieenpaaKLb
import Derived.Deep.RegionHeld3
namespace Go.Proofs.Ytimonpoeieenpaa
open Go.RowKit

set_option maxRecDepth 100000 in
set_option maxHeartbeats 16000000 in
theorem lawBack_of (hwk : Wakes 7) (A C : Option Addr) (l : List Bp) (L : List Int) (n c m d : Nat) (w : World) (hn : l.length = n) (h : Lies w A (pvals l)) (hi : Ins w l) (hl : n * 48 ≤ 140737488351232) (hs : ∀ q ∈ l, q.k.l.length ≤ 140737488351232 ∧ q.v.l.length ≤ 140737488351232) (g : In w C L m d) (hm : m ≤ 140737488355328) :
    Calls Try.prog 5 #[.slice A n c, .slice C m d] w fun e w' => e = .returned (.bool true) ∧ Below w.heap.size w w' := by
  have CP := Lib.hid (fun (w' : World) (hb : Below w.heap.size w w') => refCopy_any A l n c w' hn (h.kept hb) (hi.kept hb) hl hs)
  have HS : Hid (∀ T : List Bp, rds T = rds l → ∀ q ∈ T, q.k.l.length ≤ 140737488351232 ∧ q.v.l.length ≤ 140737488351232) := Lib.hid (fun T e q hq => by
    have h1 : q.rd ∈ rds l := e ▸ List.mem_map_of_mem hq
    obtain ⟨q', hq', e'⟩ := List.mem_map.1 h1
    have h2 := hs q' hq'
    have e1 : q'.k.l = q.k.l := congrArg Prod.fst e'
    have e2 : q'.v.l = q.v.l := congrArg Prod.snd e'
    rw [e1, e2] at h2
    exact h2)
  have HY := Lib.hid hi.byt
  have BB := Lib.hid (fun (T : List Bp) (B : Nat) (A' : Option Addr) (c' : Nat) (w' : World) (e : rds T = rds l) (hp : Prow w' B A' c' T) (hm : Mades w' B T) => by
    have h1 := build_any A' T n c' w' (by rw [← hn, ← rds_len, e, rds_len]) hp.lies (hm.ins (fun p hp => HY.out p (e ▸ hp))) hl (HS.out T e)
    rw [e] at h1
    exact h1)
  have BT := Lib.hid (fun (T : List Bp) (B : Nat) (A' : Option Addr) (c' z : Nat) (w' : World) (e : rds T = (readP L).1) (hf : FitP (readP L).1 ∧ buildP (readP L).1 = (L, 0) ∧ ∀ p ∈ (readP L).1, PrB p) (hp : Prow w' B A' c' T) (hm : Mades w' B T) (hz : T.length = z) => by
    have h1 := build_any A' T z c' w' hz hp.lies (hm.ins (fun p hp => hf.2.2 p (e ▸ hp))) (by have := hf.1.1; rw [← e, rds_len] at this; omega) (fun q hq => by
      have := hf.1.2 q.rd (e ▸ List.mem_map_of_mem hq)
      have h1 : q.k.l.length ≤ 200 := this.1
      have h2 : q.v.l.length ≤ 4096 := this.2
      exact ⟨by omega, by omega⟩)
    rw [e, hf.2.1] at h1
    exact h1)
  have HN := Lib.hid hn
  have HLN := Lib.hid hl
  have WK := Lib.hid hwk
  have HC := Lib.hid (fun (w' : World) (hb : Below w.heap.size w w') => g.kept hb)
  have OC := Lib.hid (fun (w' : World) (hb : Below w.heap.size w w') => own_any C L m d w' g.len (g.kept hb).bys (by rw [g.len]; exact Nat.le_trans hm (by decide)))
  have RC := Lib.hid (fun (A : Option Addr) (c : Nat) (w : World) (h : In w A L m c) => read_any A L m c w h hm)
  have HML := Lib.hid g.len
  have YL := Lib.hid g.byt
  have HPE := Lib.hid (fun (e : (readP L).2 ≠ 0) => readP_err e)
  have HPF : Hid ((readP L).2 = 0 → FitP (readP L).1 ∧ buildP (readP L).1 = (L, 0) ∧ ∀ p ∈ (readP L).1, PrB p) := Lib.hid (fun e => by
    have e' : readP L = ((readP L).1, 0) := Prod.ext rfl e
    exact ⟨(readP_form g.byt e').short, readP_build g.byt e', (readP_form g.byt e').byt⟩)
  have HL9 : Hid ((n : Int) ≤ 9223372036854775807) := Lib.hid (by omega)
  have HA := Lib.hid (fun (w' : World) (hb : Below w.heap.size w w') => And.intro (h.kept hb) (hi.kept hb))
  have HQS := Lib.hid hs
  clear h hi hl hs hn hwk g hm
  generalize readP L = p at RC HPE HPF BT
  obtain ⟨P, r⟩ := p
  simp only at HPE HPF BT
  rcases buildP_cases (rds l) with hb | hb | ⟨hf, hg, hb⟩
  · rw [hb] at BB
    clear hb
    go_enter Try.func5, Try.ntmps5
    go_upto_region 16 with (first
      | (go_at_call 7; refine (WK.out _).mono ?_; rintro e w1 ⟨rfl, b1⟩; have B1 := Lib.hid b1; clear b1 WK)
      | (go_at_call 9; refine (CP.out _ B1.out).mono ?_; rintro e w2 ⟨T, A2, c2, rfl2, rfl, t2, t3, b2⟩; rw [show T.length = n by rw [← HN.out, ← rds_len, rfl2, rds_len]]; have K2 := Lib.hid (And.intro rfl2 (And.intro t2 t3)); have B2 := Lib.hid (below_then B1.out b2); clear rfl2 t2 t3 b2 CP)
      | (have t := BB; go_at_call 8; refine (BB.out T _ A2 c2 _ K2.out.1 K2.out.2.2 K2.out.2.1).mono ?_; rintro e w3 ⟨A3, c3, rfl, r3, b3⟩; have BL := Lib.hid (below_then B2.out b3); clear r3 b3 t BB))
    go_upto_region 17 with (first
      | (have t := OC; go_at_call 13; refine (OC.out _ BL.out).mono ?_; rintro e w17 ⟨g17, c17, rfl, m17, b17⟩; rw [HML.out]; have I17 : Hid (In w17 (some ⟨g17, 0, none⟩) L m c17) := Lib.hid (Row.in_n (A := some ⟨g17, 0, none⟩) m17 YL.out HML.out); have B17 := Lib.hid (below_then BL.out b17); clear m17 b17 t OC)
      | (have t := RC; go_at_call 15; refine (RC.out _ _ _ I17.out).mono ?_; rintro e w18 ⟨T18, A18, c18, t18, rfl, m18, r18, b18⟩; have K18 := Lib.hid (And.intro t18 (And.intro m18 r18)); have B18 := Lib.hid (below_then B17.out b18); clear t18 m18 r18 b18 t RC))
    by_cases hr : r = 0
    · obtain ⟨Z18, hZ18⟩ : ∃ z, T18.length = z := ⟨_, rfl⟩
      rw [hZ18]
      have HF18 := Lib.hid (HPF.out hr)
      have HZ := Lib.hid hZ18
      subst hr
      clear hZ18 HPF HPE
      go_wp2_with (first
        | (have t := BT; go_at_call 8; refine (BT.out T18 _ A18 c18 Z18 _ K18.out.1 HF18.out K18.out.2.2 K18.out.2.1 HZ.out).mono ?_; rintro e w19 ⟨A19, c19, rfl, r19, b19⟩; rw [HML.out]; have R19 := Lib.hid r19; have B19 := Lib.hid (below_then B18.out b19); clear r19 b19 t BT)
        | (go_at_call 11; refine (same_any _ _ L _ _ _ _ _ HML.out HML.out R19.out.lies (HC.out _ B19.out).bys).mono ?_; rintro e w20 ⟨rfl, rfl⟩))
      go_ret
      exact ⟨by simp, B19.out⟩
    · have hT : T18 = [] := by
        have := K18.out.1
        rw [HPE.out hr] at this
        exact List.map_eq_nil_iff.1 this
      subst hT
      go_wp2_with fail
      go_ret
      exact ⟨by simp, B18.out⟩
  · rw [hb] at BB
    clear hb
    go_enter Try.func5, Try.ntmps5
    go_upto_region 16 with (first
      | (go_at_call 7; refine (WK.out _).mono ?_; rintro e w1 ⟨rfl, b1⟩; have B1 := Lib.hid b1; clear b1 WK)
      | (go_at_call 9; refine (CP.out _ B1.out).mono ?_; rintro e w2 ⟨T, A2, c2, rfl2, rfl, t2, t3, b2⟩; rw [show T.length = n by rw [← HN.out, ← rds_len, rfl2, rds_len]]; have K2 := Lib.hid (And.intro rfl2 (And.intro t2 t3)); have B2 := Lib.hid (below_then B1.out b2); clear rfl2 t2 t3 b2 CP)
      | (have t := BB; go_at_call 8; refine (BB.out T _ A2 c2 _ K2.out.1 K2.out.2.2 K2.out.2.1).mono ?_; rintro e w3 ⟨A3, c3, rfl, r3, b3⟩; have BL := Lib.hid (below_then B2.out b3); clear r3 b3 t BB))
    go_upto_region 17 with (first
      | (have t := OC; go_at_call 13; refine (OC.out _ BL.out).mono ?_; rintro e w17 ⟨g17, c17, rfl, m17, b17⟩; rw [HML.out]; have I17 : Hid (In w17 (some ⟨g17, 0, none⟩) L m c17) := Lib.hid (Row.in_n (A := some ⟨g17, 0, none⟩) m17 YL.out HML.out); have B17 := Lib.hid (below_then BL.out b17); clear m17 b17 t OC)
      | (have t := RC; go_at_call 15; refine (RC.out _ _ _ I17.out).mono ?_; rintro e w18 ⟨T18, A18, c18, t18, rfl, m18, r18, b18⟩; have K18 := Lib.hid (And.intro t18 (And.intro m18 r18)); have B18 := Lib.hid (below_then B17.out b18); clear t18 m18 r18 b18 t RC))
    by_cases hr : r = 0
    · obtain ⟨Z18, hZ18⟩ : ∃ z, T18.length = z := ⟨_, rfl⟩
      rw [hZ18]
      have HF18 := Lib.hid (HPF.out hr)
      have HZ := Lib.hid hZ18
      subst hr
      clear hZ18 HPF HPE
      go_wp2_with (first
        | (have t := BT; go_at_call 8; refine (BT.out T18 _ A18 c18 Z18 _ K18.out.1 HF18.out K18.out.2.2 K18.out.2.1 HZ.out).mono ?_; rintro e w19 ⟨A19, c19, rfl, r19, b19⟩; rw [HML.out]; have R19 := Lib.hid r19; have B19 := Lib.hid (below_then B18.out b19); clear r19 b19 t BT)
        | (go_at_call 11; refine (same_any _ _ L _ _ _ _ _ HML.out HML.out R19.out.lies (HC.out _ B19.out).bys).mono ?_; rintro e w20 ⟨rfl, rfl⟩))
      go_ret
      exact ⟨by simp, B19.out⟩
    · have hT : T18 = [] := by
        have := K18.out.1
        rw [HPE.out hr] at this
        exact List.map_eq_nil_iff.1 this
      subst hT
      go_wp2_with fail
      go_ret
      exact ⟨by simp, B18.out⟩
  · rw [hb] at BB
    obtain ⟨F, hF⟩ : ∃ F, flatP [] (rds l) = F := ⟨_, rfl⟩
    have HFR : Hid (readP F = (rds l, 0)) := Lib.hid (by rw [← hF]; exact readP_back hf hg)
    have HFB : Hid (Byt F) := Lib.hid (by rw [← hF]; exact flatP_byt [] _ HY.out hf.2)
    have HFF : Hid (∀ (i : Nat) (p : Pr), (rds l)[i]? = some p → findP F p.1 = (p.2, true, 0)) := Lib.hid (fun i p hp => by rw [← hF]; exact findP_back hf hg hp)
    obtain ⟨fl, hfl⟩ : ∃ fl, F.length = fl := ⟨_, rfl⟩
    have HFM : Hid (fl ≤ 20000000) := Lib.hid (by
      have h1 := flatP_len [] (rds l) hf.2
      have h2 := hf.1
      rw [hF, hfl] at h1
      omega)
    have HFL := Lib.hid hfl
    have HKS : Hid (∀ q ∈ l, q.k.l.length ≤ 200 ∧ q.v.l.length ≤ 4096) := Lib.hid (fun q hq => hf.2 q.rd (List.mem_map_of_mem hq))
    rw [hF] at BB
    clear hb hf hg hF hfl
    have OX := Lib.hid (fun (A : Option Addr) (c : Nat) (w' : World) (h : In w' A F fl c) => own_any A F fl c w' h.len h.bys (by have := HFM.out; rw [HFL.out]; omega))
    have RX := Lib.hid (fun (A : Option Addr) (c : Nat) (w : World) (h : In w A F fl c) => read_any A F fl c w h (by have := HFM.out; omega))
    have FX := Lib.hid (fun (A C : Option Addr) (K : List Int) (c k d : Nat) (w : World) (h : In w A F fl c) (g : In w C K k d) => find_any A C F K fl c k d w h g (by have := HFM.out; omega))
    rw [HFR.out] at RX
    have T1 := Lib.hid trivial
    go_enter Try.func5, Try.ntmps5
    go_upto_region 8 with (first
      | (go_at_call 7; refine (WK.out _).mono ?_; rintro e w1 ⟨rfl, b1⟩; have B1 := Lib.hid b1; clear b1 WK)
      | (go_at_call 9; refine (CP.out _ B1.out).mono ?_; rintro e w2 ⟨T, A2, c2, rfl2, rfl, t2, t3, b2⟩; rw [show T.length = n by rw [← HN.out, ← rds_len, rfl2, rds_len]]; have K2 := Lib.hid (And.intro rfl2 (And.intro t2 t3)); have B2 := Lib.hid (below_then B1.out b2); clear rfl2 t2 t3 b2 CP)
      | (have t := BB; go_at_call 8; refine (BB.out T _ A2 c2 _ K2.out.1 K2.out.2.2 K2.out.2.1).mono ?_; rintro e w3 ⟨A3, c3, rfl, r3, b3⟩; rw [HFL.out]; have X3 : Hid (In w3 A3 F fl c3) := Lib.hid (r3.in_n HFB.out HFL.out); have B3 := Lib.hid (below_then B2.out b3); clear r3 b3 t BB)
      | (have t := T1; go_at_call 13; refine (OX.out _ _ _ X3.out).mono ?_; rintro e w4 ⟨g4, c4, rfl, m4, b4⟩; rw [HFL.out]; have I4 : Hid (In w4 (some ⟨g4, 0, none⟩) F fl c4) := Lib.hid (Row.in_n (A := some ⟨g4, 0, none⟩) m4 HFB.out HFL.out); have C4 := Lib.hid b4; have B4 := Lib.hid (below_then B3.out b4); clear m4 b4 T1 t)
      | (have t := RX; go_at_call 15; refine (RX.out _ _ _ I4.out).mono ?_; rintro e w5 ⟨T5, A5, c5, t5, rfl, m5, r5, b5⟩; rw [show T5.length = n by rw [← HN.out, ← rds_len, t5, rds_len]]; have K5 := Lib.hid (And.intro t5 (And.intro m5 r5)); have C5 := Lib.hid (below_then C4.out b5); have B5 := Lib.hid (below_then B4.out b5); clear t5 m5 r5 b5 t RX)
      | (go_at_call 16; refine (refSame_any A5 A T5 l n n c5 c _ (by rw [← HN.out, ← rds_len, K5.out.1, rds_len]) HN.out K5.out.2.2.lies (HA.out _ B5.out).1 (K5.out.2.1.ins (fun p hp => HY.out p (K5.out.1 ▸ hp))) (HA.out _ B5.out).2 HLN.out HLN.out).mono ?_; rintro e w6 ⟨rfl, k6, rfl⟩; rw [show decide (rds T5 = rds l) = true by simp [K5.out.1]]; have C6 : Hid (Below w3.heap.size w3 (w5.drewN k6)) := Lib.hid (below_drewN C5.out k6); have B6 : Hid (Below w.heap.size w (w5.drewN k6)) := Lib.hid (below_drewN B5.out k6)))
    obtain ⟨w6, hw6⟩ : ∃ w6, w5.drewN k6 = w6 := ⟨_, rfl⟩
    rw [hw6] at C6 B6 ⊢
    clear hw6
    have L36 : Hid (Below w.heap.size w w3) := B3
    go_wp2_with fail
    go_loopw [43] (fun t43 wr => ∃ k : Nat, k ≤ n ∧ t43 = .int .i64 k ∧ Hid (Below w3.heap.size w3 wr)) (fun t43 _ => n - (intOf t43).toNat)
    case atStart => exact ⟨0, by omega, rfl, C6⟩
    case round =>
      obtain ⟨k, hk, rfl, hC⟩ := hrel
      have CB : Hid (Below w.heap.size w wr) := Lib.hid (below_then L36.out hC.out)
      by_cases hlt : k < n
      · have hq := List.getElem?_eq_getElem (l := l) (i := k) (by have := HN.out; omega)
        generalize l[k]'(by have := HN.out; omega) = x at hq
        obtain ⟨ad, rfl, a0⟩ := lies_pair (HA.out _ CB.out).1 hq
        have HIX := Lib.hid (fun (W : World) (hb : Below w.heap.size w W) => (HA.out W hb).2 x (List.mem_of_getElem? hq))
        have HAT := Lib.hid (fun (W : World) (hb : Below w.heap.size w W) => lies_pair_at (HA.out W hb).1 hq)
        have HFX := Lib.hid (HFF.out k _ (rds_get hq))
        have HKX := Lib.hid (HKS.out x (List.mem_of_getElem? hq))
        clear hq a0
        obtain ⟨⟨ka, kc, kl⟩, ⟨va, vc, vl⟩⟩ := x
        simp only [Bp.rd] at HIX HAT HFX HKX
        obtain ⟨q, hq⟩ : ∃ q, kl.length = q := ⟨_, rfl⟩
        obtain ⟨z, hz⟩ : ∃ z, vl.length = z := ⟨_, rfl⟩
        have HQ := Lib.hid hq
        have HZ := Lib.hid hz
        have HK : Hid (∀ W : World, Below w.heap.size w W → W.cell? (ad.add (k * 2)) = some (.slice ka q kc) ∧ W.cell? ⟨(ad.add (k * 2)).block, (ad.add (k * 2)).off + 1, none⟩ = some (.slice va z vc)) := Lib.hid (fun W hb => by
          have := HAT.out W hb
          unfold AtP at this
          simp only [HQ.out, HZ.out] at this
          exact this)
        clear hq hz HAT
        have OK := Lib.hid (fun (w' : World) (hb : Below w.heap.size w w') => own_any ka kl q kc w' HQ.out (HIX.out w' hb).1.bys (by have := HKX.out.1; omega))
        have YK := Lib.hid (HIX.out _ CB.out).1.byt
        have k0 : (k : Int) < n := by omega
        have T1 := Lib.hid trivial
        have T2 := Lib.hid trivial
        have K1 := Lib.hid (fun (W : World) (A : Option Addr) (c : Nat) (h : In wr A F fl c) => h)
        go_upto_region 11 with fail
        go_region_held3 (fun W => W.cell? (ad.add (k * 2)) = some (.slice ka q kc)) (first | exact (HK.out _ CB.out).1 | exact (HK.out _ CB.out.drew).1 | go_keep) (first
          | (have t := T1; go_at_call 13; (with_reducible refine (OX.out _ _ _ (X3.out.kept ?_)).mono ?_); (focus (repeat (first | with_reducible exact hC.out | with_reducible refine Below.drew ?_))); rintro e w8 ⟨g8, c8, rfl, m8, b8⟩; rw [HFL.out]; have I8 : Hid (In w8 (some ⟨g8, 0, none⟩) F fl c8) := Lib.hid (Row.in_n (A := some ⟨g8, 0, none⟩) m8 HFB.out HFL.out); (try have I9 := Lib.hid (I9.out.kept (below_then (by repeat (first | with_reducible exact Below.refl _ _ | with_reducible refine Below.drew ?_)) b8))); have hC : Hid (Below w3.heap.size w3 w8) := Lib.hid (below_then (by repeat (first | with_reducible exact hC.out | with_reducible refine Below.drew ?_)) b8); have CB : Hid (Below w.heap.size w w8) := Lib.hid (below_then L36.out hC.out); clear m8 b8 T1 t)
          | (have t := T2; go_at_call 13; (with_reducible refine (OK.out _ ?_).mono ?_); (focus (repeat (first | with_reducible exact CB.out | with_reducible refine Below.drew ?_))); rintro e w9 ⟨g9, c9, rfl, m9, b9⟩; rw [HQ.out]; have I9 : Hid (In w9 (some ⟨g9, 0, none⟩) kl q c9) := Lib.hid (Row.in_n (A := some ⟨g9, 0, none⟩) m9 YK.out HQ.out); (try have I8 := Lib.hid (I8.out.kept (below_then (by repeat (first | with_reducible exact Below.refl _ _ | with_reducible refine Below.drew ?_)) b9))); have hC : Hid (Below w3.heap.size w3 w9) := Lib.hid (below_then (by repeat (first | with_reducible exact hC.out | with_reducible refine Below.drew ?_)) b9); have CB : Hid (Below w.heap.size w w9) := Lib.hid (below_then L36.out hC.out); clear m9 b9 T2 t)
          | (go_at_call 12; (with_reducible refine (FX.out _ _ _ _ _ _ _ (I8.out.kept ?_) (I9.out.kept ?_)).mono ?_); (focus (repeat (first | with_reducible exact Below.refl _ _ | with_reducible refine Below.drew ?_))); (focus (repeat (first | with_reducible exact Below.refl _ _ | with_reducible refine Below.drew ?_))); rw [HFX.out]; rintro e w10 ⟨A10, c10, rfl, i10, b10⟩; rw [HZ.out]; have I10 := Lib.hid i10; have hC : Hid (Below w3.heap.size w3 w10) := Lib.hid (below_then (by repeat (first | with_reducible exact hC.out | with_reducible refine Below.drew ?_)) b10); have CB : Hid (Below w.heap.size w w10) := Lib.hid (below_then L36.out hC.out); clear i10 b10))
        all_goals
          have v1 := (HK.out _ CB.out).2
          go_upto_region 14 with (first
            | (go_at_call 11; refine (same_any _ _ vl _ _ _ _ _ HZ.out HZ.out I10.out.bys (HIX.out _ CB.out).2.bys).mono ?_; rintro e w11 ⟨rfl, rfl⟩))
          by_cases h20 : k = 20
          · subst h20
            have BL := CB
            go_upto_region 17 with (first
              | (have t := OC; go_at_call 13; refine (OC.out _ BL.out).mono ?_; rintro e w17 ⟨g17, c17, rfl, m17, b17⟩; rw [HML.out]; have I17 : Hid (In w17 (some ⟨g17, 0, none⟩) L m c17) := Lib.hid (Row.in_n (A := some ⟨g17, 0, none⟩) m17 YL.out HML.out); have B17 := Lib.hid (below_then BL.out b17); clear m17 b17 t OC)
              | (have t := RC; go_at_call 15; refine (RC.out _ _ _ I17.out).mono ?_; rintro e w18 ⟨T18, A18, c18, t18, rfl, m18, r18, b18⟩; have K18 := Lib.hid (And.intro t18 (And.intro m18 r18)); have B18 := Lib.hid (below_then B17.out b18); clear t18 m18 r18 b18 t RC))
            by_cases hr : r = 0
            · obtain ⟨Z18, hZ18⟩ : ∃ z, T18.length = z := ⟨_, rfl⟩
              rw [hZ18]
              have HF18 := Lib.hid (HPF.out hr)
              have HZ := Lib.hid hZ18
              subst hr
              clear hZ18 HPF HPE
              go_wp2_with (first
                | (have t := BT; go_at_call 8; refine (BT.out T18 _ A18 c18 Z18 _ K18.out.1 HF18.out K18.out.2.2 K18.out.2.1 HZ.out).mono ?_; rintro e w19 ⟨A19, c19, rfl, r19, b19⟩; rw [HML.out]; have R19 := Lib.hid r19; have B19 := Lib.hid (below_then B18.out b19); clear r19 b19 t BT)
                | (go_at_call 11; refine (same_any _ _ L _ _ _ _ _ HML.out HML.out R19.out.lies (HC.out _ B19.out).bys).mono ?_; rintro e w20 ⟨rfl, rfl⟩))
              go_ret
              exact ⟨by simp, B19.out⟩
            · have hT : T18 = [] := by
                have := K18.out.1
                rw [HPE.out hr] at this
                exact List.map_eq_nil_iff.1 this
              subst hT
              go_wp2_with fail
              go_ret
              exact ⟨by simp, B18.out⟩
          · have h21 : ¬ (k : Int) = 20 := by omega
            have hn9 := HL9.out
            go_wp2_with fail
            go_roundw
            case rel => exact ⟨k + 1, by omega, by go_num, hC⟩
            case measure => simp [intOf]; omega
      · obtain rfl : k = n := by omega
        have BL := CB
        go_upto_region 17 with (first
          | (have t := OC; go_at_call 13; refine (OC.out _ BL.out).mono ?_; rintro e w17 ⟨g17, c17, rfl, m17, b17⟩; rw [HML.out]; have I17 : Hid (In w17 (some ⟨g17, 0, none⟩) L m c17) := Lib.hid (Row.in_n (A := some ⟨g17, 0, none⟩) m17 YL.out HML.out); have B17 := Lib.hid (below_then BL.out b17); clear m17 b17 t OC)
          | (have t := RC; go_at_call 15; refine (RC.out _ _ _ I17.out).mono ?_; rintro e w18 ⟨T18, A18, c18, t18, rfl, m18, r18, b18⟩; have K18 := Lib.hid (And.intro t18 (And.intro m18 r18)); have B18 := Lib.hid (below_then B17.out b18); clear t18 m18 r18 b18 t RC))
        by_cases hr : r = 0
        · obtain ⟨Z18, hZ18⟩ : ∃ z, T18.length = z := ⟨_, rfl⟩
          rw [hZ18]
          have HF18 := Lib.hid (HPF.out hr)
          have HZ := Lib.hid hZ18
          subst hr
          clear hZ18 HPF HPE
          go_wp2_with (first
            | (have t := BT; go_at_call 8; refine (BT.out T18 _ A18 c18 Z18 _ K18.out.1 HF18.out K18.out.2.2 K18.out.2.1 HZ.out).mono ?_; rintro e w19 ⟨A19, c19, rfl, r19, b19⟩; rw [HML.out]; have R19 := Lib.hid r19; have B19 := Lib.hid (below_then B18.out b19); clear r19 b19 t BT)
            | (go_at_call 11; refine (same_any _ _ L _ _ _ _ _ HML.out HML.out R19.out.lies (HC.out _ B19.out).bys).mono ?_; rintro e w20 ⟨rfl, rfl⟩))
          go_ret
          exact ⟨by simp, B19.out⟩
        · have hT : T18 = [] := by
            have := K18.out.1
            rw [HPE.out hr] at this
            exact List.map_eq_nil_iff.1 this
          subst hT
          go_wp2_with fail
          go_ret
          exact ⟨by simp, B18.out⟩
end Go.Proofs.Ytimonpoeieenpaa
