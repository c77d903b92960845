/-
  Walks: two stretches are merged: the cut, the turn, the halves.
-/
import Derived.Test.YtefkabkncmflpaaDoorWkX
import Derived.Deep.CutRange
import Derived.Deep.Cut
import Derived.Deep.CutBlock
namespace Go.Proofs.YtefkabkncmflpaaDoor
open Go.RowKit Go.Sort Go.Shelf

variable {m : Nat}

/-- A slot that holds the answer to a test. -/
def Tested (P : Prop) (t : Value) : Prop := ∃ B : Bool, t = .bool B ∧ (B = true ↔ P)
theorem Tested.yes {P : Prop} (h : P) : Tested P (.bool true) := ⟨true, rfl, fun _ => h, fun _ => rfl⟩
theorem Tested.no {P : Prop} (h : ¬ P) : Tested P (.bool false) := ⟨false, rfl, ⟨fun g => (by cases g), fun k => absurd k h⟩⟩
/-- What the search finds is a cut. -/
theorem cut_of {r : Pl m → Int} {d : Array (Pl m)} {a q b mid n s0 r0 s e : Nat} (w : Two r d a q b) (_haq : a < q) (_hqb : q < b) (hmid : (a + b) / 2 = mid) (hn : mid + q = n)
    (hc : (mid < q ∧ s0 + b = n ∧ r0 = mid) ∨ (¬ mid < q ∧ s0 = a ∧ r0 = q)) (h0 : s0 ≤ s) (h1 : s ≤ r0) (he : e + s = n)
    (lo : ∀ c, s0 ≤ c → c < s → tl r d[c]! d[n - 1 - c]!) (hi : ∀ c, s ≤ c → c < r0 → tl r d[n - 1 - c]! d[c]!) : Cuts r d a q b s e := by
  refine ⟨by omega, by omega, by omega, by omega, fun i j i1 i2 j1 j2 => ?_, fun i j i1 i2 j1 j2 => ?_⟩
  · have t := lo (s - 1) (by omega) (by omega)
    rw [show n - 1 - (s - 1) = e by omega] at t
    exact w.hi.upw (w.lo.down t i1 (by omega) (by omega)) (by omega) j1 j2
  · have t := hi s (Nat.le_refl _) (by omega)
    rw [show n - 1 - s = e - 1 by omega] at t
    exact w.lo.upw (w.hi.down t j1 (by omega) (by omega)) (by omega) i1 i2

set_option maxRecDepth 100000 in
set_option maxHeartbeats 8000000 in
theorem sym_step (r : Pl m → Int) (cf : Pl m → Pl m → Int) (hcf : ∀ x y, ltOf cf x y = decide (r y < r x)) (g : Nat) (cb : Array Value) (blk cap M a q b k0 : Nat) (hM : m + 1 = M) (hm : M ≤ 1024) (d0 d : Array (Pl m)) (w : World)
    (eg : ∀ args w, (callFunc g args).run Tryd.prog w = .ok (.enter g args) w) (hcmp : CmpReads Tryd.prog g cb encP cf blk 0 M w) (hH : Holds encP w blk 0 d0) (h0 : d0.size = M) (hs : d.size = M) (h1 : a + 1 < q) (h2 : q + 1 < b) (h3 : b ≤ M) (tw : Two r d a q b)
    (IH : ∀ (a' q' b' k : Nat) (d' : Array (Pl m)), b' - a' < b - a → a' < q' → q' < b' → b' ≤ M → d'.size = M → Two r d' a' q' b' →
      Calls Tryd.prog 81 #[.slice (some ⟨blk, 0, none⟩) M cap, .int .i64 a', .int .i64 q', .int .i64 b', .func (.func g) #[] cb] ((putRow encP w blk 0 d').drewN k) (Merged r w blk d' a' b')) :
    Calls Tryd.prog 81 #[.slice (some ⟨blk, 0, none⟩) M cap, .int .i64 a, .int .i64 q, .int .i64 b, .func (.func g) #[] cb] ((putRow encP w blk 0 d).drewN k0) (Merged r w blk d a b) := by
  have hcAt : ∀ (X : Array (Pl m)) (x y : Pl m), X.size = M → ∀ k n, Calls Tryd.prog g (#[encP x, encP y] ++ cb) (((putRow encP w blk 0 X).drewN k).drewN n) fun e w' => e = .returned (.int .i64 (cf x y)) ∧ ∃ q, w' = (((putRow encP w blk 0 X).drewN k).drewN n).drewN q := fun X x y hX k n => by
    have := hcmp (k + n) #[] X hX x y
    rw [sortWorld_none, ← World.drewN_drewN] at this
    exact this
  have HC := Lib.hid hcAt
  have HCF := Lib.hid hcf
  have ROT := Lib.hid (fun (fv : Value) (x y z k : Nat) (g1 : x < y) (g2 : y < z) (g3 : z ≤ M) => rotate_any fv blk cap M x y z k hM hm d0 d w hH h0 hs g1 g2 g3)
  have HH := Lib.hid hH
  have H0 := Lib.hid h0
  have HS := Lib.hid hs
  have HM := Lib.hid hM
  have TW := Lib.hid tw
  have HIH := Lib.hid IH
  clear hcAt hcmp hcf hH h0 hs hM tw IH
  obtain ⟨mid, hmid⟩ : ∃ mid, (a + b) / 2 = mid := ⟨_, rfl⟩
  obtain ⟨n, hn⟩ : ∃ n, mid + q = n := ⟨_, rfl⟩
  obtain ⟨s0, r0, hsr⟩ : ∃ s0 r0, (mid < q ∧ s0 + b = n ∧ r0 = mid) ∨ (¬ mid < q ∧ s0 = a ∧ r0 = q) := by
    by_cases h : mid < q
    · exact ⟨n - b, mid, Or.inl ⟨h, by omega, rfl⟩⟩
    · exact ⟨a, q, Or.inr ⟨h, rfl, rfl⟩⟩
  have c1 : ((q : Int) - (a : Int) == 1) = false := by simp; omega
  have c2 : ((b : Int) - (q : Int) == 1) = false := by simp; omega
  have M1 : (M : Int) ≤ 1024 := by omega
  have b1 : (b : Int) ≤ M := by omega
  have a1 : (a : Int) + 1 < q := by omega
  have q1 : (q : Int) + 1 < b := by omega
  have m1 : ((a : Int) + (b : Int)) / 2 = (mid : Int) := by omega
  have n1 : (mid : Int) + (q : Int) = (n : Int) := by omega
  have mi : (mid : Int) ≤ 1024 := by omega
  have HMD := Lib.hid (And.intro hmid hn)
  have sr0 : s0 ≤ r0 := by omega
  have rM : r0 < b := by omega
  have nb : n ≤ 2 * b := by omega
  have nr : r0 ≤ n := by omega
  have n2 : 2 ≤ n := by omega
  have HSR := Lib.hid hsr
  clear hmid hn hsr
  have h12 := Lib.hid (And.intro h1 h2)
  go_enter Tryd.func81, Tryd.ntmps81
  go_upto_if 140 with fail
  go_cut [20, 21] from 138 to 146 (fun t20 t21 wx => t20 = .int .i64 s0 ∧ t21 = .int .i64 r0 ∧ wx = (putRow encP w blk 0 d).drewN k0)
  case first =>
    by_cases hq : mid < q
    · have hqi : (mid : Int) < q := by omega
      have x1 : (n : Int) - (b : Int) = (s0 : Int) := by have := HSR.out; omega
      have x2 : r0 = mid := by have := HSR.out; omega
      subst x2
      go_wp2_with fail
      go_meet
      exact ⟨rfl, rfl, rfl⟩
    · have hqi : ¬ (mid : Int) < q := by omega
      have x1 : s0 = a := by have := HSR.out; omega
      have x2 : r0 = q := by have := HSR.out; omega
      subst x1 x2
      go_wp2_with fail
      go_meet
      exact ⟨rfl, rfl, rfl⟩
  case rest =>
    obtain ⟨rfl, rfl, hwc⟩ := hcut
    have HW0 := Lib.hid hwc
    clear hwc
    go_wp2_with fail
    go_loopw [20, 21] (fun t20 t21 wr => ∃ (i j k : Nat), s0 ≤ i ∧ i ≤ j ∧ j ≤ r0 ∧ t20 = .int .i64 i ∧ t21 = .int .i64 j ∧ wr = (putRow encP w blk 0 d).drewN k ∧ Hid (∀ x, s0 ≤ x → x < i → tl r d[x]! d[n - 1 - x]!) ∧ Hid (∀ x, j ≤ x → x < r0 → tl r d[n - 1 - x]! d[x]!)) (fun t20 t21 _ => (intOf t21).toNat - (intOf t20).toNat)
    case atStart => exact ⟨s0, r0, k0, Nat.le_refl _, sr0, Nat.le_refl _, rfl, rfl, HW0.out, Lib.hid (fun x _ _ => absurd (show x < x by omega) (by omega)), Lib.hid (fun x _ _ => absurd (show x < x by omega) (by omega))⟩
    case round =>
      obtain ⟨i, j, k, i1, ij, jb, rfl, rfl, hwr, hlo, hhi⟩ := hrel
      by_cases hlt : i < j
      · have hlti : (i : Int) < j := by omega
        obtain ⟨h, hh⟩ : ∃ h, (i + j) / 2 = h := ⟨_, rfl⟩
        have HHH := Lib.hid hh
        have e1 : ((i : Int) + j) / 2 = h := by omega
        have i0 : (i : Int) ≤ 1024 := by omega
        have j0 : (j : Int) ≤ 1024 := by omega
        have h12' := h12.out
        have hsr := HSR.out
        have hmd := HMD.out
        obtain ⟨p, hp⟩ : ∃ p, n - 1 - h = p := ⟨_, rfl⟩
        have HP := Lib.hid hp
        have e2 : (n : Int) - 1 - (h : Int) = (p : Int) := by omega
        have hq' : h < q := by omega
        have ha' : a ≤ h := by omega
        have pq' : q ≤ p := by omega
        have pb' : p < b := by omega
        have hM' : h < M := by omega
        have hMi : (h : Int) < M := by omega
        have pM : p < M := by omega
        have pMi : (p : Int) < M := by omega
        have HJ := holds_putRow encP w blk 0 d0 d HH.out (by rw [HS.out, H0.out])
        obtain ⟨ch, fh⟩ := HJ h (by rw [HS.out]; omega)
        obtain ⟨ca, fa⟩ := HJ p (by rw [HS.out]; omega)
        rw [Nat.zero_add] at ch ca
        have ch' : wr.cell? ⟨blk, h, none⟩ = some (encP d[h]!) := by rw [hwr]; exact ch
        have ca' : wr.cell? ⟨blk, p, none⟩ = some (encP d[p]!) := by rw [hwr]; exact ca
        have T := Lib.hid (TW.out.test h p ha' hq' pq' pb')
        have L := Lib.hid (HCF.out d[p]! d[h]!)
        obtain ⟨x, hx⟩ : ∃ x, d[h]! = x := ⟨_, rfl⟩
        obtain ⟨y, hy⟩ : ∃ y, d[p]! = y := ⟨_, rfl⟩
        have HX := Lib.hid (And.intro hx hy)
        have hc := HC.out d y x HS.out k
        rw [← hwr] at hc
        rw [hx] at ch'
        rw [hy] at ca'
        unfold encP at ch' ca'
        have HW := Lib.hid hwr
        by_cases hl : cf y x < 0
        · have HI : Hid (∀ z, h ≤ z → z < r0 → tl r d[n - 1 - z]! d[z]!) := Lib.hid (fun z z1 z2 => by
            have t := T.out.1 (by have := L.out; rw [HX.out.1, HX.out.2] at this ⊢; unfold ltOf at this; exact of_decide_eq_true (this.symm.trans (decide_eq_true hl)))
            exact TW.out.lo.upw (TW.out.hi.down t (by omega) (by omega) (by omega)) (by omega) z1 (by omega))
          clear HJ ch fh ca fa hx hy hwr hh hp h12' hsr hmd
          have hl2 : (!decide (cf y x < 0)) = false := by rw [decide_eq_true hl]; rfl
          go_wp2_with fail
          go_quiet ((go_at_fn g; refine Calls.quiet_of (hc _)))
          go_wp2_with fail
          go_roundw
          case rel => exact ⟨i, h, k + nq, i1, by have := HHH.out; omega, by have := HHH.out; omega, rfl, rfl, by rw [HW.out, World.drewN_drewN], hlo, HI⟩
          case measure => have := HHH.out; simp [intOf]; omega
        · have LO : Hid (∀ z, s0 ≤ z → z < h + 1 → tl r d[z]! d[n - 1 - z]!) := Lib.hid (fun z z1 z2 => by
            have t := T.out.2 (by have := L.out; rw [HX.out.1, HX.out.2] at this ⊢; unfold ltOf at this; exact of_decide_eq_false (this.symm.trans (decide_eq_false hl)))
            exact TW.out.hi.upw (TW.out.lo.down t (by omega) (by omega) (by omega)) (by omega) (by omega) (by omega))
          clear HJ ch fh ca fa hx hy hwr hh hp h12' hsr hmd
          have hl2 : (!decide (cf y x < 0)) = true := by rw [decide_eq_false hl]; rfl
          clear hl
          go_wp2_with fail
          go_quiet ((go_at_fn g; refine Calls.quiet_of (hc _)))
          go_wp2_with fail
          go_roundw
          case rel => exact ⟨h + 1, j, k + nq, by have := HHH.out; omega, by have := HHH.out; omega, jb, by go_num, rfl, by rw [HW.out, World.drewN_drewN], LO, hhi⟩
          case measure => have := HHH.out; simp [intOf]; omega
      · obtain rfl : i = j := by omega
        obtain ⟨e, he⟩ : ∃ e, e + i = n := ⟨n - i, by omega⟩
        have CU := Lib.hid (cut_of TW.out (by omega) (by omega) HMD.out.1 HMD.out.2 HSR.out i1 jb he hlo.out hhi.out)
        have hme : mid = i + (e - q) := by have := CU.out.s1; have := CU.out.s2; have := CU.out.e1; have := HMD.out.2; omega
        have HME := Lib.hid hme
        have en : (n : Int) - (i : Int) = (e : Int) := by omega
        have eb : e ≤ b := CU.out.e2
        have eM : (e : Int) ≤ 1024 := by omega
        have iM : (i : Int) ≤ 1024 := by omega
        have HW := Lib.hid hwr
        clear hlo hhi hwr hme he HSR HMD HC HCF
        have LOW := Lib.hid (fun d1 (t : Turned d d1 i q e) => CU.out.low TW.out t)
        have HIGH := Lib.hid (fun d1 (t : Turned d d1 i q e) => CU.out.high TW.out t)
        have OVER := Lib.hid (fun d1 (t : Turned d d1 i q e) => CU.out.over TW.out t)
        have MIX := Lib.hid (fun d1 (t : Turned d d1 i q e) => (t.mix CU.out.s2 CU.out.e1).wide CU.out.s1 CU.out.e2)
        rw [← HME.out] at LOW HIGH OVER
        have QS := Lib.hid (And.intro CU.out.s1 (And.intro CU.out.s2 (And.intro CU.out.e1 CU.out.e2)))
        go_upto_region 39 with fail
        go_cut [185] from 178 to 185 (fun t185 wx => Tested (i < q ∧ q < e) t185 ∧ wr = wx)
        case first =>
          by_cases x1 : i < q
          · have x1i : (i : Int) < q := by omega
            by_cases x2 : q < e
            · have x2i : (q : Int) < e := by omega
              go_wp2_with fail
              go_meet
              exact ⟨Tested.yes ⟨x1, x2⟩, rfl⟩
            · have x2i : decide (q < e) = false := decide_eq_false x2
              have XN := Lib.hid (fun h : i < q ∧ q < e => x2 h.2)
              clear x2
              go_wp2_with fail
              go_meet
              exact ⟨Tested.no XN.out, rfl⟩
          · have x1i : decide (i < q) = false := decide_eq_false x1
            have XN := Lib.hid (fun h : i < q ∧ q < e => x1 h.1)
            clear x1
            go_wp2_with fail
            go_meet
            exact ⟨Tested.no XN.out, rfl⟩
        case rest =>
          obtain ⟨⟨B, rfl, hB⟩, rfl⟩ := hcut
          have HB := Lib.hid hB
          clear hB
          go_upto_if 185 with fail
          go_cut [24] from 178 to 191 (fun t24 wx => t24 = .int .i64 e ∧ ∃ (d1 : Array (Pl m)) (k1 : Nat), wx = (putRow encP w blk 0 d1).drewN k1 ∧ Hid (Turned d d1 i q e))
          case first =>
            by_cases x : i < q ∧ q < e
            · obtain rfl : B = true := HB.out.2 x
              obtain ⟨x1, x2⟩ := x
              go_wp2_with fail
              rw [HW.out]
              refine (ROT.out _ i q e k x1 x2 (by omega)).mono ?_
              rintro e' w' ⟨rfl, d1, k1, hw, ht⟩
              have HW1 := Lib.hid hw
              have HT1 := Lib.hid ht
              clear hw ht
              go_wp2_with fail
              go_meet
              exact ⟨rfl, d1, k1, HW1.out, HT1⟩
            · obtain rfl : B = false := by
                cases B
                · rfl
                · exact absurd (HB.out.1 rfl) x
              have HT' : Hid (Turned d d i q e) := by
                have := QS.out
                by_cases z : i = q
                · rw [z]; exact Lib.hid (Turned.left d q e)
                · have : e = q := by omega
                  rw [this]; exact Lib.hid (Turned.right d i q)
              clear x
              go_wp2_with fail
              go_meet
              exact ⟨rfl, d, k, HW.out, HT'⟩
          case rest =>
            obtain ⟨rfl, d1, k1, hwc1, ht1⟩ := hcut
            have HW1 := Lib.hid hwc1
            have S1 := Lib.hid (ht1.out.1.trans HS.out)
            clear hwc1 HW ROT
            obtain ⟨w1, hw1⟩ : ∃ w1 : World, w1 = wc := ⟨_, rfl⟩
            rw [← hw1] at HW1 ⊢
            clear hw1
            go_upto_region 41 with fail
            go_cut [199] from 192 to 199 (fun t199 wx => Tested (a < i ∧ i < mid) t199 ∧ w1 = wx)
            case first =>
              by_cases x1 : a < i
              · have x1i : (a : Int) < i := by omega
                by_cases x2 : i < mid
                · have x2i : (i : Int) < mid := by omega
                  go_wp2_with fail
                  go_meet
                  exact ⟨Tested.yes ⟨x1, x2⟩, rfl⟩
                · have x2i : decide (i < mid) = false := decide_eq_false x2
                  have XN := Lib.hid (fun h : a < i ∧ i < mid => x2 h.2)
                  clear x2
                  go_wp2_with fail
                  go_meet
                  exact ⟨Tested.no XN.out, rfl⟩
              · have x1i : decide (a < i) = false := decide_eq_false x1
                have XN := Lib.hid (fun h : a < i ∧ i < mid => x1 h.1)
                clear x1
                go_wp2_with fail
                go_meet
                exact ⟨Tested.no XN.out, rfl⟩
            case rest =>
              obtain ⟨⟨B, rfl, hB⟩, rfl⟩ := hcut
              have HB := Lib.hid hB
              clear hB
              go_upto_if 199 with fail
              go_cut [24] from 192 to 205 (fun t24 wx => t24 = .int .i64 e ∧ ∃ (d2 : Array (Pl m)) (k2 : Nat), wx = (putRow encP w blk 0 d2).drewN k2 ∧ Hid (Mix d1 d2 a mid ∧ Srt r d2 a mid))
              case first =>
                by_cases x : a < i ∧ i < mid
                · obtain rfl : B = true := HB.out.2 x
                  obtain ⟨x1, x2⟩ := x
                  go_wp2_with (go_at_call 81; rw [HW1.out]; refine (HIH.out a i mid k1 d1 (by omega) x1 x2 (by omega) S1.out (LOW.out d1 ht1.out)).mono ?_; rintro e' w' ⟨rfl, d2, k2, hw, hmx, hst⟩; have HW2 := Lib.hid hw; have HT2 := Lib.hid (And.intro hmx hst); clear hw hmx hst)
                  go_meet
                  exact ⟨rfl, d2, k2, HW2.out, HT2⟩
                · obtain rfl : B = false := by
                    cases B
                    · rfl
                    · exact absurd (HB.out.1 rfl) x
                  have HT2 : Hid (Mix d1 d1 a mid ∧ Srt r d1 a mid) := by
                    have := QS.out
                    have := HME.out
                    by_cases z : i = a
                    · have h := (LOW.out d1 ht1.out).hi
                      rw [z] at h; exact Lib.hid ⟨Mix.refl _ _ _, h⟩
                    · have h := (LOW.out d1 ht1.out).lo
                      have : i = mid := by omega
                      rw [this] at h; exact Lib.hid ⟨Mix.refl _ _ _, h⟩
                  clear x
                  go_wp2_with fail
                  go_meet
                  exact ⟨rfl, d1, k1, HW1.out, HT2⟩
              case rest =>
                obtain ⟨rfl, d2, k2, hwc2, ht2⟩ := hcut
                have HW2 := Lib.hid hwc2
                have S2 := Lib.hid (ht2.out.1.els.1.trans S1.out)
                have TW2 := Lib.hid ((HIGH.out d1 ht1.out).else ht2.out.1.els (Or.inr (Nat.le_refl _)) (by have := QS.out; have := HME.out; omega) (by have := QS.out; omega))
                have OV2 := Lib.hid ((OVER.out d1 ht1.out).mix ht2.out.1)
                have MX2 := Lib.hid ((MIX.out d1 ht1.out).trans (ht2.out.1.wide (Nat.le_refl _) (by have := QS.out; have := HME.out; omega)))
                have ST2 := Lib.hid ht2.out.2
                have FIN : Hid (∀ (d3 : Array (Pl m)), Mix d2 d3 mid b → Srt r d3 mid b → Mix d d3 a b ∧ Srt r d3 a b) := Lib.hid (fun d3 hm3 hs3 =>
                  ⟨MX2.out.trans (hm3.wide (by have := QS.out; have := HME.out; omega) (Nat.le_refl _)), Two.all (ST2.out.else hm3.els (Or.inl (Nat.le_refl _))) hs3 (OV2.out.mix' hm3)⟩)
                clear hwc2 HW1 LOW HIGH OVER MIX ht2 ht1
                obtain ⟨w2, hw2⟩ : ∃ w2 : World, w2 = wc := ⟨_, rfl⟩
                rw [← hw2] at HW2 ⊢
                clear hw2
                go_upto_region 43 with fail
                go_cut [213] from 206 to 213 (fun t213 wx => Tested (mid < e ∧ e < b) t213 ∧ w2 = wx)
                case first =>
                  by_cases x1 : mid < e
                  · have x1i : (mid : Int) < e := by omega
                    by_cases x2 : e < b
                    · have x2i : (e : Int) < b := by omega
                      go_wp2_with fail
                      go_meet
                      exact ⟨Tested.yes ⟨x1, x2⟩, rfl⟩
                    · have x2i : decide (e < b) = false := decide_eq_false x2
                      have XN := Lib.hid (fun h : mid < e ∧ e < b => x2 h.2)
                      clear x2
                      go_wp2_with fail
                      go_meet
                      exact ⟨Tested.no XN.out, rfl⟩
                  · have x1i : decide (mid < e) = false := decide_eq_false x1
                    have XN := Lib.hid (fun h : mid < e ∧ e < b => x1 h.1)
                    clear x1
                    go_wp2_with fail
                    go_meet
                    exact ⟨Tested.no XN.out, rfl⟩
                case rest =>
                  obtain ⟨⟨B, rfl, hB⟩, rfl⟩ := hcut
                  have HB := Lib.hid hB
                  clear hB
                  by_cases x : mid < e ∧ e < b
                  · obtain rfl : B = true := HB.out.2 x
                    obtain ⟨x1, x2⟩ := x
                    go_wp2_with (go_at_call 81; rw [HW2.out]; refine (HIH.out mid e b k2 d2 (by have := QS.out; have := HME.out; omega) x1 x2 h3 S2.out TW2.out).mono ?_; rintro e' w' ⟨rfl, d3, k3, hw, hmx, hst⟩; have HW3 := Lib.hid hw; have HT3 := Lib.hid (And.intro hmx hst); clear hw hmx hst)
                    go_end0
                    exact ⟨rfl, d3, k3, HW3.out, (FIN.out d3 HT3.out.1 HT3.out.2).1, (FIN.out d3 HT3.out.1 HT3.out.2).2⟩
                  · obtain rfl : B = false := by
                      cases B
                      · rfl
                      · exact absurd (HB.out.1 rfl) x
                    have HT3 : Hid (Mix d2 d2 mid b ∧ Srt r d2 mid b) := by
                      have := QS.out
                      have := HME.out
                      by_cases z : mid = e
                      · have h := TW2.out.hi
                        rw [← z] at h; exact Lib.hid ⟨Mix.refl _ _ _, h⟩
                      · have h := TW2.out.lo
                        have : e = b := by omega
                        rw [this] at h; exact Lib.hid ⟨Mix.refl _ _ _, h⟩
                    clear x
                    go_wp2_with fail
                    go_end0
                    exact ⟨rfl, d2, k2, HW2.out, (FIN.out d2 HT3.out.1 HT3.out.2).1, (FIN.out d2 HT3.out.1 HT3.out.2).2⟩

end Go.Proofs.YtefkabkncmflpaaDoor
