/-
  Walks: a block built, by the program.
-/
import Derived.Test.YtimonpoeieenpaaKBf
namespace Go.Proofs.Ytimonpoeieenpaa
open Go.RowKit

theorem ret_bools {a b : Bool} (h : a = b) : Ending.returned (.bool a) = .returned (.bool b) := by rw [h]
set_option maxRecDepth 100000 in
set_option maxHeartbeats 4000000 in
theorem tooLong_any (A : Option Addr) (l : List Bp) (n c : Nat) (w : World) (hn : l.length = n) (h : Lies w A (pvals l)) (hl : n * 48 ≤ 140737488351232) (hs : ∀ q ∈ l, q.k.l.length ≤ 140737488351232 ∧ q.v.l.length ≤ 140737488351232) :
    Calls Try.prog 18 #[.slice A n c] w fun e w' => ∃ b, e = .returned (.bool b) ∧ (b = true ↔ ¬ FitP (rds l)) ∧ Below w.heap.size w w' := by
  have HP := Lib.hid (fun (w' : World) (hb : Below w.heap.size w w') => h.kept hb)
  have HS := Lib.hid hs
  have HN := Lib.hid hn
  have HR := Lib.hid (rds_len l)
  clear h hn hs
  by_cases hbig : 4096 < n
  · have HV : Hid (¬ FitP (rds l)) := Lib.hid (fun hf => by have := hf.1; rw [HR.out, HN.out] at this; omega)
    have hb' : (4096 : Int) < n := by omega
    go_enter Try.func18, Try.ntmps18
    go_wp2_with fail
    go_ret
    exact ⟨true, rfl, ⟨fun _ => HV.out, fun _ => rfl⟩, Below.refl _ _⟩
  go_enter Try.func18, Try.ntmps18
  go_wp2_with fail
  go_loopw [10] (fun t10 wr => ∃ k : Nat, k ≤ n ∧ t10 = .int .i64 k ∧ Hid (∀ x ∈ (rds l).take k, ShortP x) ∧ Hid (Below w.heap.size w wr)) (fun t10 _ => n - (intOf t10).toNat)
  case atStart => exact ⟨0, by omega, rfl, Lib.hid (fun x hx => by simp at hx), Lib.hid (Below.refl _ _)⟩
  case round =>
    obtain ⟨k, hk, rfl, hsh, hbl⟩ := hrel
    by_cases hlt : k < n
    · have hq := List.getElem?_eq_getElem (l := l) (i := k) (by have := HN.out; omega)
      generalize l[k]'(by have := HN.out; omega) = x at hq
      obtain ⟨ad, rfl, a0, a1⟩ := lies_pair (HP.out _ hbl.out) hq
      have HQ := Lib.hid hq
      clear hq
      obtain ⟨⟨ka, kc, kl⟩, ⟨va, vc, vl⟩⟩ := x
      obtain ⟨m, hm⟩ : ∃ m, kl.length = m := ⟨_, rfl⟩
      obtain ⟨z, hz⟩ : ∃ m, vl.length = m := ⟨_, rfl⟩
      simp only [hm, hz] at a0 a1
      have HM := Lib.hid (And.intro hm hz)
      clear hm hz
      have i0 : (k : Int) < n := by omega
      have HB1 := Lib.hid (hbl.out.alloc hbl.out.size (.cells #[.slice ka m kc, .slice va z vc] 42))
      by_cases h1 : 200 < m
      · have HV : Hid (¬ FitP (rds l)) := Lib.hid (fit_not HQ.out (.inl (by have := HM.out.1; simp only; omega)))
        have d1 : decide (200 < (m : Int)) = true := by simp; omega
        clear h1
        go_wp2_with fail
        go_ret
        exact ⟨true, rfl, ⟨fun _ => HV.out, fun _ => rfl⟩, HB1.out⟩
      · have d1 : decide (200 < (m : Int)) = false := by simp; omega
        by_cases h2 : 4096 < z
        · have HV : Hid (¬ FitP (rds l)) := Lib.hid (fit_not HQ.out (.inr (by have := HM.out.2; simp only; omega)))
          have d2 : decide (4096 < (z : Int)) = true := by simp; omega
          clear h1 h2
          go_wp2_with fail
          go_ret
          exact ⟨true, rfl, ⟨fun _ => HV.out, fun _ => rfl⟩, HB1.out⟩
        · have d2 : decide (4096 < (z : Int)) = false := by simp; omega
          have HX := Lib.hid (short_next hsh.out (rds_get HQ.out) ⟨by have := HM.out.1; simp only [Bp.rd]; omega, by have := HM.out.2; simp only [Bp.rd]; omega⟩)
          clear h1 h2
          go_wp2_with fail
          go_roundw
          case rel => exact ⟨k + 1, by omega, by go_num, HX, HB1⟩
          case measure => simp [intOf]; omega
    · obtain rfl : k = n := by omega
      have hsh' := hsh.out
      rw [List.take_of_length_le (by rw [HR.out, HN.out]; omega)] at hsh'
      have HF : Hid (FitP (rds l)) := Lib.hid ⟨by rw [HR.out, HN.out]; omega, hsh'⟩
      go_wp2_with fail
      go_ret
      exact ⟨false, rfl, ⟨fun h => absurd h (by decide), fun h => absurd HF.out h⟩, hbl.out⟩

set_option maxRecDepth 100000 in
set_option maxHeartbeats 8000000 in
theorem build_any (A : Option Addr) (l : List Bp) (n c : Nat) (w : World) (hn : l.length = n) (h : Lies w A (pvals l)) (hi : Ins w l) (hl : n * 48 ≤ 140737488351232) (hs : ∀ q ∈ l, q.k.l.length ≤ 140737488351232 ∧ q.v.l.length ≤ 140737488351232) :
    Calls Try.prog 8 #[.slice A n c] w (Built w (buildP (rds l))) := by
  have HT := Lib.hid (tooLong_any A l n c w hn h hl hs)
  have HP := Lib.hid (fun (w' : World) (hb : Below w.heap.size w w') => h.kept hb)
  have HI := Lib.hid (fun (w' : World) (hb : Below w.heap.size w w') => hi.kept hb)
  have HN := Lib.hid hn
  have HR := Lib.hid (rds_len l)
  clear h hn hi hs
  by_cases hfit : FitP (rds l)
  case neg =>
    rw [buildP_long hfit]
    have HF := Lib.hid hfit
    clear hfit
    go_enter Try.func8, Try.ntmps8
    go_wp2_with (go_at_call 18; refine HT.out.mono ?_; rintro e w1 ⟨b, rfl, hb, b1⟩; obtain rfl := hb.2 HF.out; have B1 := Lib.hid b1; clear hb b1)
    go_ret2
    exact built_none ⟨rfl, B1.out⟩
  have HF := Lib.hid hfit
  clear hfit
  go_enter Try.func8, Try.ntmps8
  go_wp2_with (go_at_call 18; refine HT.out.mono ?_; rintro e w1 ⟨b, rfl, hb, b1⟩; obtain rfl : b = false := (by cases b; rfl; exact absurd HF.out (hb.1 rfl)); have B1 := Lib.hid b1; clear hb b1)
  go_loopw [4, 5, 13] (fun t4 t5 t13 wr => ∃ (k : Nat) (A2 E : Option Addr) (c2 q g gc : Nat), k ≤ n ∧ t13 = .int .i64 k ∧ t4 = .slice A2 q c2 ∧ t5 = .slice E g gc ∧ Hid ((flatP [] ((rds l).take k)).length = q) ∧ Hid (Row wr w.heap.size A2 c2 (flatP [] ((rds l).take k))) ∧ Hid (∀ W, Below w.heap.size w W → In W E (lastK [] ((rds l).take k)) g gc) ∧ Hid (risesP [] ((rds l).take k)) ∧ Hid (Below w.heap.size w wr)) (fun _ _ t13 _ => n - (intOf t13).toNat)
  case atStart => exact ⟨0, none, none, 0, 0, 0, 0, by omega, rfl, rfl, rfl, Lib.hid rfl, Lib.hid (Row.nil _ _), Lib.hid (fun W _ => ⟨rfl, Nat.le_refl _, by decide, .inl rfl, Byt.nil⟩), Lib.hid trivial, B1⟩
  case round =>
    obtain ⟨k, A2, E, c2, q, g, gc, hk, rfl, rfl, rfl, hq2, hrow, hah, hris, hbl⟩ := hrel
    by_cases hlt : k < n
    · have hq := List.getElem?_eq_getElem (l := l) (i := k) (by have := HN.out; omega)
      generalize l[k]'(by have := HN.out; omega) = x at hq
      obtain ⟨ad, rfl, a0, a1⟩ := lies_pair (HP.out _ hbl.out) hq
      have HX := Lib.hid (fun (w' : World) (hb : Below w.heap.size w w') => (HI.out w' hb) x (List.mem_of_getElem? hq))
      have HQ := Lib.hid (rds_get hq)
      have HSX := Lib.hid (HF.out.2 x.rd (List.mem_of_getElem? HQ.out))
      have HFL := Lib.hid (flatP_len [] ((rds l).take k) (fun p hp => HF.out.2 p (List.mem_of_mem_take hp)))
      have HTL : Hid (((rds l).take k).length ≤ 4096) := Lib.hid (by rw [List.length_take]; have := HF.out.1; omega)
      have HFN : Hid (flatP [] ((rds l).take (k + 1)) = flatP [] ((rds l).take k) ++ formP (lastK [] ((rds l).take k)) x.rd) := Lib.hid (by rw [take_next HQ.out, flatP_snoc])
      have HKN := Lib.hid (lastK_take HQ.out)
      clear hq
      obtain ⟨⟨ka, kc, kl⟩, ⟨va, vc, vl⟩⟩ := x
      simp only [Bp.rd] at a0 a1 HX HSX HFN HKN
      have HRN := Lib.hid (fun e => rises_next hris.out HQ.out e)
      have HRO := Lib.hid (fun e => rises_not (L := rds l) (k := k) HQ.out e)
      simp only [Bp.rd] at HRN HRO
      generalize flatP [] ((rds l).take k) = F at hq2 hrow HFL HFN
      generalize lastK [] ((rds l).take k) = G at hah HFN HRN HRO
      obtain ⟨N, hN⟩ : ∃ N, alike kl G = N := ⟨_, rfl⟩
      have hN1 := (alike_le kl G).1
      have hN2 := (alike_le kl G).2
      have hCB := cmpL_behind kl G
      rw [hN] at hN1 hN2 hCB
      have HFM : Hid (formP G (kl, vl) = digs N ++ (digs ((kl.length - N : Nat) : Int) ++ (digs vl.length ++ (kl.drop N ++ vl)))) := Lib.hid (by unfold formP; simp only [hN])
      obtain ⟨k1, hk1⟩ : ∃ k1, kl.length = N + k1 := ⟨kl.length - N, by omega⟩
      obtain ⟨z, hz⟩ : ∃ z, vl.length = z := ⟨_, rfl⟩
      have hg := (hah.out w (Below.refl _ _)).len
      obtain ⟨g1, rfl⟩ : ∃ g1, g = N + g1 := ⟨g - N, by omega⟩
      have HSK : Hid (N + k1 ≤ 200 ∧ z ≤ 4096) := Lib.hid (by have h1 := HSX.out.1; have h2 := HSX.out.2; simp only at h1 h2; omega)
      simp only [hk1, hz] at a0 a1 HX HFM
      have e1 : N + k1 - N = k1 := by omega
      rw [e1] at HFM
      have HZ := Lib.hid (And.intro hk1 hz)
      have HCB := Lib.hid hCB
      have HNA := Lib.hid hN
      clear hN hN1 hN2 hCB hk1 hz hg e1 HSX
      have i0 : (k : Int) < n := by omega
      have HBA : Hid (Below wr.heap.size wr (wr.alloc (.cells #[.slice ka (N + k1) kc, .slice va z vc] 42))) := Lib.hid (below_new _ _)
      have HPK := Lib.hid (pack_any ka va E kl vl G N k1 kc z vc (N + g1) gc (wr.alloc (.cells #[.slice ka (N + k1) kc, .slice va z vc] 42)) (HX.out _ (hbl.out.trans (HBA.out.mono hbl.out.size))).1 (HX.out _ (hbl.out.trans (HBA.out.mono hbl.out.size))).2 (hah.out _ (hbl.out.trans (HBA.out.mono hbl.out.size))) HNA.out)
      have HBX : Hid ((wr.alloc (.cells #[.slice ka (N + k1) kc, .slice va z vc] 42)).heap[wr.heap.size]? = some (.cells #[.slice ka (N + k1) kc, .slice va z vc] 42 (0, 0))) := Lib.hid (heap_alloc_new _ _)
      obtain ⟨A', hA'⟩ : ∃ A', lowA ka N kc = A' := ⟨_, rfl⟩
      have HLO : Hid (∀ W, Below w.heap.size w W → In W A' (kl.drop N) k1 (kc - N)) := Lib.hid (fun W hb => hA' ▸ (HX.out W hb).1.low_at.2)
      rw [hA'] at HPK
      clear hA'
      go_upto_region 8 with (go_at_call 19; refine HPK.out.mono ?_; rintro e w2 ⟨rfl, b2⟩; have B2 := Lib.hid (below_then HBA.out b2); have X2 := Lib.hid ((b2.block _ (by rw [World.size_alloc]; omega)).trans HBX.out); clear b2)
      have HRI := Lib.hid (rises_any N g1 A' va E (kl.drop N) G k1 (kc - N) z vc gc (w2.alloc (.cells #[.int .i64 N, .slice A' k1 (kc - N), .slice va z vc] 47)) (HLO.out _ (hbl.out.trans ((below_al B2.out _).mono hbl.out.size))) (hah.out _ (hbl.out.trans ((below_al B2.out _).mono hbl.out.size))))
      rw [HCB.out] at HRI
      have HX8 : Hid ((w2.alloc (.cells #[.int .i64 N, .slice A' k1 (kc - N), .slice va z vc] 47)).heap[w2.heap.size]? = some (.cells #[.int .i64 N, .slice A' k1 (kc - N), .slice va z vc] 47 (0, 0))) := Lib.hid (heap_alloc_new _ _)
      have HX7 : Hid ((w2.alloc (.cells #[.int .i64 N, .slice A' k1 (kc - N), .slice va z vc] 47)).heap[wr.heap.size]? = some (.cells #[.slice ka (N + k1) kc, .slice va z vc] 42 (0, 0))) := Lib.hid (((below_new w2 _).block _ (by have := (Array.getElem?_eq_some_iff.1 X2.out).1; omega)).trans X2.out)
      by_cases hr : cmpL kl G = 1
      · have hd : decide (cmpL kl G = 1) = true := by simpa using hr
        rw [hd] at HRI
        have HRN2 := Lib.hid (HRN.out hr)
        clear hr hd
        go_upto_region 10 with (go_at_call 20; refine HRI.out.mono ?_; rintro e w3 ⟨rfl, b3⟩; have B3 := Lib.hid (below_then (below_al B2.out _) b3); have X3 := Lib.hid ((b3.block _ (Array.getElem?_eq_some_iff.1 HX7.out).1).trans HX7.out); have X8 := Lib.hid ((b3.block _ (Array.getElem?_eq_some_iff.1 HX8.out).1).trans HX8.out); clear b3)
        have d0 : w3.cell? ⟨w2.heap.size, 0, none⟩ = some (.int .i64 N) := by simp [World.cell?, X8.out]
        have d1 : w3.cell? ⟨w2.heap.size, 1, none⟩ = some (.slice A' k1 (kc - N)) := by simp [World.cell?, X8.out]
        have d2 : w3.cell? ⟨w2.heap.size, 2, none⟩ = some (.slice va z vc) := by simp [World.cell?, X8.out]
        have D3 : Hid (Below w.heap.size w w3) := Lib.hid (hbl.out.trans (B3.out.mono hbl.out.size))
        have HAP := Lib.hid (appendTo_any N A' va A2 (kl.drop N) vl F k1 (kc - N) z vc q c2 w.heap.size w3 (by have := HSK.out; omega) (by have := HSK.out; omega) (by have := HSK.out; omega) (fun W hb => HLO.out W (D3.out.trans hb)) (fun W hb => (HX.out W (D3.out.trans hb)).2) (hrow.out.kept B3.out (Nat.le_refl _)) hq2.out (by have := HFL.out; have := HTL.out; have := hq2.out; omega) D3.out.size)
        have HPE := HFN.out
        rw [HFM.out] at HPE
        rw [← HPE] at HAP
        have HPH := Lib.hid HPE
        clear HPE
        obtain ⟨P, hP⟩ : ∃ P, flatP [] ((rds l).take (k + 1)) = P := ⟨_, rfl⟩
        rw [hP] at HAP
        have HPQ := Lib.hid hP
        clear hP HPH
        obtain ⟨p, hp⟩ : ∃ p, P.length = p := ⟨_, rfl⟩
        rw [hp] at HAP
        have HPL := Lib.hid hp
        clear hp
        go_wp2_with (go_at_call 21; refine HAP.out.mono ?_; rintro e w4 ⟨A4, c4, rfl, r4, b4, s4⟩; have R4 := Lib.hid r4; have B4 : Hid (Below w.heap.size w w4) := Lib.hid (D3.out.trans b4); have X4 := Lib.hid (s4 _ _ _ (by decide) X3.out); have y0 : w4.cell? ⟨wr.heap.size, 0, none⟩ = some (.slice ka (N + k1) kc) := (by simp [World.cell?, X4.out]); clear r4 b4 s4)
        go_roundw
        case rel => exact ⟨k + 1, A4, ka, c4, p, N + k1, kc, by omega, by go_num, rfl, rfl, by rw [HPQ.out]; exact HPL, by rw [HPQ.out]; exact R4, Lib.hid (fun W hb => by rw [HKN.out]; exact (HX.out W hb).1), HRN2, B4⟩
        case measure => simp [intOf]; omega
      · have hd : decide (cmpL kl G = 1) = false := by simpa using hr
        rw [hd] at HRI
        have HV := Lib.hid (buildP_key HF.out (HRO.out hr))
        clear hr hd
        go_wp2_with (go_at_call 20; refine HRI.out.mono ?_; rintro e w3 ⟨rfl, b3⟩; have B3 := Lib.hid (below_then (below_al B2.out _) b3); clear b3)
        go_ret2
        rw [HV.out]
        exact built_none ⟨rfl, hbl.out.trans (B3.out.mono hbl.out.size)⟩
    · obtain rfl : k = n := by omega
      have e : (rds l).take k = rds l := List.take_of_length_le (by rw [HR.out, HN.out]; omega)
      rw [e] at hq2 hrow hris
      have HV := Lib.hid (buildP_ok HF.out hris.out)
      have hm := hq2.out
      clear hq2
      subst hm
      go_wp2_with fail
      go_ret2
      rw [HV.out]
      exact ⟨A2, c2, rfl, hrow.out, hbl.out⟩

end Go.Proofs.Ytimonpoeieenpaa
