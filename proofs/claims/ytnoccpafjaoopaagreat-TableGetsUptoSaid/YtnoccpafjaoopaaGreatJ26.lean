/-
  TableWrites: walks of the law itself.
-/
import Derived.Test.YtnoccpafjaoopaaGreatJ25
set_option linter.unusedSimpArgs false
set_option linter.unusedVariables false
namespace Go.Proofs.YtnoccpafjaoopaaGreat
open Go.RowKit
open Go.Maps
theorem ordered_in {w : World} {A : Option Addr} {l : List En} {n c : Nat} (h : LIn w A l n c) : Calls Tryz.prog 14 #[.slice A n c] w fun e w' => e = .returned (.bool (decide (OrdL (ers l)))) ∧ Below w.heap.size w w' :=
  refOrdered_any A l n c w h.len h.lies h.ins (by have := h.small.1; omega) (fun q hq => by have := (h.small.2 q hq).1; omega)
theorem dump_calm {w : World} {B g : Nat} {p : Pk} (h : PSt w B g p) (hv : p.vm = calmV) : Calls Tryz.prog 16 #[.pointer (some ⟨g, 0, none⟩)] w fun e w' => ∃ A c, e = .returned (.slice A 0 c) ∧ Below w.heap.size w w' := by
  have hl : p.l = [] := by
    have := vm_len hv
    exact List.eq_nil_of_length_eq_zero this
  have := dump_any B g p w h (by rw [hl]; decide) (fun q hq => by rw [hl] at hq; cases hq) (fun q hq => by rw [hl] at hq; cases hq)
  refine this.mono ?_
  rintro e w' ⟨l', h1, -, A, c, rfl, h4, h5⟩
  rw [hl] at h1
  have h6 : l' = [] := List.map_eq_nil_iff.1 h1
  subst h6
  exact ⟨A, c, rfl, h5⟩
/-- All of a whole table. -/
theorem all_whole {w w0 : World} {A : Option Addr} {l : List En} {n c : Nat} {t : Tm} (h : LIn w0 A l n c) (ht : TabAt w t) (hW : Whole (ers l) t.tb) (hg : ∀ x ∈ ers l, GoodE x) : Calls Tryz.prog 18 #[.pointer (some ⟨t.b, 0, none⟩), .slice none 0 0, .slice none 0 0] w fun e w' => ∃ (l' : List En) (A' : Option Addr) (c' : Nat), ers l' = ers l ∧ e = .returned (.tuple #[.slice A' n c', .int .i64 0]) ∧ Erow w' w.heap.size A' c' l' ∧ EMades w' w.heap.size l' ∧ Tw t.mb w w' ∧ TabW (fun g => SlB A' g ∨ EnB l' g) w' t := by
  have hr := hW.range [] []
  rw [rangeE_all hg] at hr
  have hfew := hW.few
  have hsm := h.small.1
  have hlen := h.len
  rw [ers_len] at hfew
  refine (all_any t none none [] [] 0 0 0 0 w ht (in_nil w) (in_nil w) (by decide) (by decide) (by simp only [Tm.tb, List.length_map] at hfew; omega) (by rw [hr]; simp only [ers_len]; omega)).mono ?_
  rintro e w' ⟨l', A', c', h1, rfl, h3⟩
  rw [hr] at h1 ⊢
  simp only at h1
  exact ⟨l', A', c', h1, by rw [show l'.length = n by rw [← ers_len, h1, ers_len, hlen]]; rfl, h3⟩
theorem bounds_of {t : Tm} {l : List En} {z : Nat} {x0 xz : En} (hW : Whole (ers l) t.tb) (h0 : l[0]? = some x0) (hz : l[z]? = some xz) (hl : l.length = z + 1) : ∃ r : Rm, t.R[0]? = some r ∧ r.k.l = x0.k.l ∧ t.K = xz.k.l := by
  obtain ⟨r', x, h1, h2, h3⟩ := hW.first
  have h1' : (t.R.map Rm.rd)[0]? = some r' := h1
  rw [List.getElem?_map] at h1'
  cases hr : t.R[0]? with
  | none => rw [hr] at h1'; cases h1'
  | some r =>
    rw [hr] at h1'
    injection h1' with h1'
    rw [ers_get h0] at h2
    injection h2 with h2
    refine ⟨r, rfl, ?_, ?_⟩
    · rw [← h1', ← h2] at h3
      exact h3
    · exact hW.last xz.rd (by rw [ers_len, hl, Nat.add_sub_cancel]; exact ers_get hz)
set_option maxRecDepth 100000 in
set_option maxHeartbeats 8000000 in
theorem lawWrites (A : Option Addr) (l : List En) (n c : Nat) (b : Int) (s : ByteArray) (w : World) (h : LIn w A l n c) (hs : s.size ≤ 140737488355328) :
    Calls Tryz.prog 3 #[.slice A n c, .int .i64 b, .string s] w fun e w' => e = .returned (.bool true) ∧ Below w.heap.size w w' := by
  have HH := Lib.hid h
  have HS := Lib.hid hs
  obtain ⟨od, hod⟩ : ∃ od, decide (OrdL (ers l)) = od := ⟨_, rfl⟩
  have HOD := Lib.hid hod
  obtain ⟨nm, hnm⟩ : ∃ nm, okName s = nm := ⟨_, rfl⟩
  have HNM := Lib.hid hnm
  have hln := h.len
  clear hs
  by_cases h0 : b < 1 ∨ 1024 < b
  · obtain ⟨mv, hmv⟩ : ∃ mv, calmV = mv := ⟨_, rfl⟩
    have HW : Hid (writeV calmV s (ers l) b = (mv, 2)) := Lib.hid (by rw [write_wide _ _ _ _ h0, hmv])
    have HMV := Lib.hid hmv.symm
    clear hmv
    clear hod hnm h hln
    by_cases h1 : b < 1
    · clear h0
      go_enter Tryz.func3, Tryz.ntmps3
      go_wp2_with (first
    | (go_at_call 9; refine (wakes_any _).mono ?_; rintro e w0 ⟨rfl, hb⟩; have B0 := Lib.hid hb; clear hb)
    | (go_at_call 11; refine (calm_any _).mono ?_; rintro e w1 ⟨rfl, hb⟩; have B1 := Lib.hid (below_then B0.out hb); clear hb)
    | (go_at_call 10; refine (new_calm w1).mono ?_; rintro e w2 ⟨g, p2, rfl, hps, hv, hb⟩; have E2 : Hid (PSt w2 w.heap.size g p2 ∧ p2.vm = calmV ∧ Below w.heap.size w w2) := Lib.hid ⟨hps.mono B1.out.size, hv, B1.out.trans (hb.mono B1.out.size)⟩; clear hps hv hb)
    | (go_at_call 13; refine (copy_in (HH.out.kept E2.out.2.2)).mono ?_; intro e w3 hc; obtain ⟨l', A', c', he, rfl, hl', -, -, hb⟩ := HH.out.copy hc; have E3 : Hid (ers l' = ers l ∧ LIn w3 A' l' n c' ∧ PSt w3 w.heap.size g p2 ∧ Below w.heap.size w w3) := Lib.hid ⟨he, hl', E2.out.1.kept hb, E2.out.2.2.trans (hb.mono E2.out.2.2.size)⟩; clear hc he hl' hb)
    | (go_at_call 12; refine (write_in (s := s) E3.out.2.1 E3.out.2.2.1 E2.out.2.1 HS.out (fits_calm _ (by decide)) (by decide)).mono ?_; rw [E3.out.1, HW.out]; rintro e w4 ⟨rfl, p4, s4, v4, d4⟩; have E4 : Hid (PSt w4 w.heap.size g p4 ∧ p4.vm = mv ∧ Below w.heap.size w w4) := Lib.hid ⟨s4, v4, E3.out.2.2.2.trans (d4.below E3.out.2.2.2.size (fun k hk => (E3.out.2.2.1.owned k hk).1))⟩; clear s4 v4 d4)
    | (go_at_call 14; refine (ordered_in (HH.out.kept E4.out.2.2)).mono ?_; rw [HOD.out]; rintro e w5 ⟨rfl, hb⟩; have B5 := Lib.hid hb; clear hb)
    | (go_at_call 15; refine (refName_any s _ (by have := HS.out; omega)).mono ?_; rw [HNM.out]; rintro e w' ⟨rfl, hw'⟩; subst hw')
    | (go_at_call 16; refine (dump_calm (p := p4) (g := g) (B := w.heap.size) E4.out.1 (E4.out.2.1.trans HMV.out)).mono ?_; rintro e w9 ⟨A9, c9, rfl, hb⟩; have B9 := Lib.hid (below_then E4.out.2.2 hb); clear hb))
      go_ret
      exact ⟨rfl, B9.out⟩
    · have h2 : 1024 < b := h0.resolve_left h1
      have d1 : decide (b < 1) = false := decide_eq_false h1
      have d2 : decide (1024 < b) = true := decide_eq_true h2
      clear h0 h1 h2
      go_enter Tryz.func3, Tryz.ntmps3
      go_wp2_with (first
    | (go_at_call 9; refine (wakes_any _).mono ?_; rintro e w0 ⟨rfl, hb⟩; have B0 := Lib.hid hb; clear hb)
    | (go_at_call 11; refine (calm_any _).mono ?_; rintro e w1 ⟨rfl, hb⟩; have B1 := Lib.hid (below_then B0.out hb); clear hb)
    | (go_at_call 10; refine (new_calm w1).mono ?_; rintro e w2 ⟨g, p2, rfl, hps, hv, hb⟩; have E2 : Hid (PSt w2 w.heap.size g p2 ∧ p2.vm = calmV ∧ Below w.heap.size w w2) := Lib.hid ⟨hps.mono B1.out.size, hv, B1.out.trans (hb.mono B1.out.size)⟩; clear hps hv hb)
    | (go_at_call 13; refine (copy_in (HH.out.kept E2.out.2.2)).mono ?_; intro e w3 hc; obtain ⟨l', A', c', he, rfl, hl', -, -, hb⟩ := HH.out.copy hc; have E3 : Hid (ers l' = ers l ∧ LIn w3 A' l' n c' ∧ PSt w3 w.heap.size g p2 ∧ Below w.heap.size w w3) := Lib.hid ⟨he, hl', E2.out.1.kept hb, E2.out.2.2.trans (hb.mono E2.out.2.2.size)⟩; clear hc he hl' hb)
    | (go_at_call 12; refine (write_in (s := s) E3.out.2.1 E3.out.2.2.1 E2.out.2.1 HS.out (fits_calm _ (by decide)) (by decide)).mono ?_; rw [E3.out.1, HW.out]; rintro e w4 ⟨rfl, p4, s4, v4, d4⟩; have E4 : Hid (PSt w4 w.heap.size g p4 ∧ p4.vm = mv ∧ Below w.heap.size w w4) := Lib.hid ⟨s4, v4, E3.out.2.2.2.trans (d4.below E3.out.2.2.2.size (fun k hk => (E3.out.2.2.1.owned k hk).1))⟩; clear s4 v4 d4)
    | (go_at_call 14; refine (ordered_in (HH.out.kept E4.out.2.2)).mono ?_; rw [HOD.out]; rintro e w5 ⟨rfl, hb⟩; have B5 := Lib.hid hb; clear hb)
    | (go_at_call 15; refine (refName_any s _ (by have := HS.out; omega)).mono ?_; rw [HNM.out]; rintro e w' ⟨rfl, hw'⟩; subst hw')
    | (go_at_call 16; refine (dump_calm (p := p4) (g := g) (B := w.heap.size) E4.out.1 (E4.out.2.1.trans HMV.out)).mono ?_; rintro e w9 ⟨A9, c9, rfl, hb⟩; have B9 := Lib.hid (below_then E4.out.2.2 hb); clear hb))
      go_ret
      exact ⟨rfl, B9.out⟩
  have d1 : decide (b < 1) = false := decide_eq_false (by omega)
  have d2 : decide (1024 < b) = false := decide_eq_false (by omega)
  by_cases he : n = 0
  · have d3 : ((n : Int) == 0) = true := by simpa using he
    have hL : ers l = [] := List.eq_nil_of_length_eq_zero (by rw [ers_len, hln, he])
    obtain ⟨mv, hmv⟩ : ∃ mv, calmV = mv := ⟨_, rfl⟩
    have HW : Hid (writeV calmV s (ers l) b = (mv, 30)) := Lib.hid (by rw [write_none _ _ _ _ (by omega) (.inl hL), hmv])
    have HMV := Lib.hid hmv.symm
    clear hmv
    clear hod hnm h hln h0 he hL
    go_enter Tryz.func3, Tryz.ntmps3
    go_wp2_with (first
    | (go_at_call 9; refine (wakes_any _).mono ?_; rintro e w0 ⟨rfl, hb⟩; have B0 := Lib.hid hb; clear hb)
    | (go_at_call 11; refine (calm_any _).mono ?_; rintro e w1 ⟨rfl, hb⟩; have B1 := Lib.hid (below_then B0.out hb); clear hb)
    | (go_at_call 10; refine (new_calm w1).mono ?_; rintro e w2 ⟨g, p2, rfl, hps, hv, hb⟩; have E2 : Hid (PSt w2 w.heap.size g p2 ∧ p2.vm = calmV ∧ Below w.heap.size w w2) := Lib.hid ⟨hps.mono B1.out.size, hv, B1.out.trans (hb.mono B1.out.size)⟩; clear hps hv hb)
    | (go_at_call 13; refine (copy_in (HH.out.kept E2.out.2.2)).mono ?_; intro e w3 hc; obtain ⟨l', A', c', he, rfl, hl', -, -, hb⟩ := HH.out.copy hc; have E3 : Hid (ers l' = ers l ∧ LIn w3 A' l' n c' ∧ PSt w3 w.heap.size g p2 ∧ Below w.heap.size w w3) := Lib.hid ⟨he, hl', E2.out.1.kept hb, E2.out.2.2.trans (hb.mono E2.out.2.2.size)⟩; clear hc he hl' hb)
    | (go_at_call 12; refine (write_in (s := s) E3.out.2.1 E3.out.2.2.1 E2.out.2.1 HS.out (fits_calm _ (by decide)) (by decide)).mono ?_; rw [E3.out.1, HW.out]; rintro e w4 ⟨rfl, p4, s4, v4, d4⟩; have E4 : Hid (PSt w4 w.heap.size g p4 ∧ p4.vm = mv ∧ Below w.heap.size w w4) := Lib.hid ⟨s4, v4, E3.out.2.2.2.trans (d4.below E3.out.2.2.2.size (fun k hk => (E3.out.2.2.1.owned k hk).1))⟩; clear s4 v4 d4)
    | (go_at_call 14; refine (ordered_in (HH.out.kept E4.out.2.2)).mono ?_; rw [HOD.out]; rintro e w5 ⟨rfl, hb⟩; have B5 := Lib.hid hb; clear hb)
    | (go_at_call 15; refine (refName_any s _ (by have := HS.out; omega)).mono ?_; rw [HNM.out]; rintro e w' ⟨rfl, hw'⟩; subst hw')
    | (go_at_call 16; refine (dump_calm (p := p4) (g := g) (B := w.heap.size) E4.out.1 (E4.out.2.1.trans HMV.out)).mono ?_; rintro e w9 ⟨A9, c9, rfl, hb⟩; have B9 := Lib.hid (below_then E4.out.2.2 hb); clear hb))
    go_ret
    exact ⟨rfl, B9.out⟩
  have d3 : ((n : Int) == 0) = false := by simpa using he
  have hne : ers l ≠ [] := fun e => he (by rw [← hln, ← ers_len, e]; rfl)
  cases od
  · obtain ⟨mv, hmv⟩ : ∃ mv, calmV = mv := ⟨_, rfl⟩
    have HW : Hid (writeV calmV s (ers l) b = (mv, 30)) := Lib.hid (by rw [write_none _ _ _ _ (by omega) (.inr (of_decide_eq_false hod)), hmv])
    have HMV := Lib.hid hmv.symm
    clear hmv
    clear hod hnm h hln h0 hne he
    go_enter Tryz.func3, Tryz.ntmps3
    go_wp2_with (first
    | (go_at_call 9; refine (wakes_any _).mono ?_; rintro e w0 ⟨rfl, hb⟩; have B0 := Lib.hid hb; clear hb)
    | (go_at_call 11; refine (calm_any _).mono ?_; rintro e w1 ⟨rfl, hb⟩; have B1 := Lib.hid (below_then B0.out hb); clear hb)
    | (go_at_call 10; refine (new_calm w1).mono ?_; rintro e w2 ⟨g, p2, rfl, hps, hv, hb⟩; have E2 : Hid (PSt w2 w.heap.size g p2 ∧ p2.vm = calmV ∧ Below w.heap.size w w2) := Lib.hid ⟨hps.mono B1.out.size, hv, B1.out.trans (hb.mono B1.out.size)⟩; clear hps hv hb)
    | (go_at_call 13; refine (copy_in (HH.out.kept E2.out.2.2)).mono ?_; intro e w3 hc; obtain ⟨l', A', c', he, rfl, hl', -, -, hb⟩ := HH.out.copy hc; have E3 : Hid (ers l' = ers l ∧ LIn w3 A' l' n c' ∧ PSt w3 w.heap.size g p2 ∧ Below w.heap.size w w3) := Lib.hid ⟨he, hl', E2.out.1.kept hb, E2.out.2.2.trans (hb.mono E2.out.2.2.size)⟩; clear hc he hl' hb)
    | (go_at_call 12; refine (write_in (s := s) E3.out.2.1 E3.out.2.2.1 E2.out.2.1 HS.out (fits_calm _ (by decide)) (by decide)).mono ?_; rw [E3.out.1, HW.out]; rintro e w4 ⟨rfl, p4, s4, v4, d4⟩; have E4 : Hid (PSt w4 w.heap.size g p4 ∧ p4.vm = mv ∧ Below w.heap.size w w4) := Lib.hid ⟨s4, v4, E3.out.2.2.2.trans (d4.below E3.out.2.2.2.size (fun k hk => (E3.out.2.2.1.owned k hk).1))⟩; clear s4 v4 d4)
    | (go_at_call 14; refine (ordered_in (HH.out.kept E4.out.2.2)).mono ?_; rw [HOD.out]; rintro e w5 ⟨rfl, hb⟩; have B5 := Lib.hid hb; clear hb)
    | (go_at_call 15; refine (refName_any s _ (by have := HS.out; omega)).mono ?_; rw [HNM.out]; rintro e w' ⟨rfl, hw'⟩; subst hw')
    | (go_at_call 16; refine (dump_calm (p := p4) (g := g) (B := w.heap.size) (E4.out.1.kept B5.out) (E4.out.2.1.trans HMV.out)).mono ?_; rintro e w9 ⟨A9, c9, rfl, hb⟩; have B9 := Lib.hid (below_then (below_then E4.out.2.2 B5.out) hb); clear hb))
    go_ret
    exact ⟨rfl, B9.out⟩
  cases nm
  · obtain ⟨mv, hmv⟩ : ∃ mv, calmV = mv := ⟨_, rfl⟩
    have HW : Hid (writeV calmV s (ers l) b = (mv, 23)) := Lib.hid (by rw [write_badname _ (by omega) hne (of_decide_eq_true hod) hnm, hmv])
    have HMV := Lib.hid hmv.symm
    clear hmv
    clear hod hnm h hln h0 hne he
    go_enter Tryz.func3, Tryz.ntmps3
    go_wp2_with (first
    | (go_at_call 9; refine (wakes_any _).mono ?_; rintro e w0 ⟨rfl, hb⟩; have B0 := Lib.hid hb; clear hb)
    | (go_at_call 11; refine (calm_any _).mono ?_; rintro e w1 ⟨rfl, hb⟩; have B1 := Lib.hid (below_then B0.out hb); clear hb)
    | (go_at_call 10; refine (new_calm w1).mono ?_; rintro e w2 ⟨g, p2, rfl, hps, hv, hb⟩; have E2 : Hid (PSt w2 w.heap.size g p2 ∧ p2.vm = calmV ∧ Below w.heap.size w w2) := Lib.hid ⟨hps.mono B1.out.size, hv, B1.out.trans (hb.mono B1.out.size)⟩; clear hps hv hb)
    | (go_at_call 13; refine (copy_in (HH.out.kept E2.out.2.2)).mono ?_; intro e w3 hc; obtain ⟨l', A', c', he, rfl, hl', -, -, hb⟩ := HH.out.copy hc; have E3 : Hid (ers l' = ers l ∧ LIn w3 A' l' n c' ∧ PSt w3 w.heap.size g p2 ∧ Below w.heap.size w w3) := Lib.hid ⟨he, hl', E2.out.1.kept hb, E2.out.2.2.trans (hb.mono E2.out.2.2.size)⟩; clear hc he hl' hb)
    | (go_at_call 12; refine (write_in (s := s) E3.out.2.1 E3.out.2.2.1 E2.out.2.1 HS.out (fits_calm _ (by decide)) (by decide)).mono ?_; rw [E3.out.1, HW.out]; rintro e w4 ⟨rfl, p4, s4, v4, d4⟩; have E4 : Hid (PSt w4 w.heap.size g p4 ∧ p4.vm = mv ∧ Below w.heap.size w w4) := Lib.hid ⟨s4, v4, E3.out.2.2.2.trans (d4.below E3.out.2.2.2.size (fun k hk => (E3.out.2.2.1.owned k hk).1))⟩; clear s4 v4 d4)
    | (go_at_call 14; refine (ordered_in (HH.out.kept E4.out.2.2)).mono ?_; rw [HOD.out]; rintro e w5 ⟨rfl, hb⟩; have B5 := Lib.hid hb; clear hb)
    | (go_at_call 15; refine (refName_any s _ (by have := HS.out; omega)).mono ?_; rw [HNM.out]; rintro e w' ⟨rfl, hw'⟩; subst hw')
    | (go_at_call 16; refine (dump_calm (p := p4) (g := g) (B := w.heap.size) (E4.out.1.kept B5.out) (E4.out.2.1.trans HMV.out)).mono ?_; rintro e w9 ⟨A9, c9, rfl, hb⟩; have B9 := Lib.hid (below_then (below_then E4.out.2.2 B5.out) hb); clear hb))
    go_ret
    exact ⟨rfl, B9.out⟩
  have hz1 : 1 ≤ b ∧ b ≤ 1024 := by omega
  obtain ⟨k, rfl⟩ : ∃ k : Nat, b = k := ⟨b.toNat, by omega⟩
  have ho : OrdL (ers l) := of_decide_eq_true hod
  have W1 := write_calm (s := s) (L := ers l) (k := k) hnm (by omega) (by omega) hne ho
  have R1 := read_lone (s := s) (fileE (ers l) k) (fileE (ers l) k).length hnm
  obtain ⟨tb, ht, hW⟩ := whole_file (l := ers l) (size := k) ho hne h.byl (by omega) (by omega) (by rw [ers_len, h.len]; have := h.small.1; omega)
  have hF9 := file_few (k := k) (by have := h.bulk; rw [ers_len, h.len]; exact this) ho hne h.byl (by omega) (by omega)
  obtain ⟨F, hF⟩ : ∃ F, fileE (ers l) k = F := ⟨_, rfl⟩
  rw [hF] at ht hF9 W1 R1
  obtain ⟨mv, hmv⟩ : ∃ mv, loneV s F F.length = mv := ⟨_, rfl⟩
  have HMV := Lib.hid hmv.symm
  have HW : Hid (writeV calmV s (ers l) k = (mv, 0)) := Lib.hid (by rw [W1, hmv])
  have HT := Lib.hid ht
  have HWH := Lib.hid hW
  have HF9 := Lib.hid hF9
  have HR1 := Lib.hid R1
  have HGD := Lib.hid ho.good
  obtain ⟨z, hz⟩ : ∃ z, n = z + 1 := ⟨n - 1, by omega⟩
  have HZN := Lib.hid hz
  have hx0 := List.getElem?_eq_getElem (l := l) (i := 0) (by omega)
  generalize l[0]'(by omega) = x0 at hx0
  have hxz := List.getElem?_eq_getElem (l := l) (i := z) (by omega)
  generalize l[z]'(by omega) = xz at hxz
  obtain ⟨ad, rfl, -⟩ := lies_entry h.lies hx0
  have HX0 := Lib.hid hx0
  have HXZ : Hid (l[z]? = some xz) := Lib.hid hxz
  obtain ⟨k0, hk0⟩ : ∃ q, x0.k.l.length = q := ⟨_, rfl⟩
  obtain ⟨kz, hkz⟩ : ∃ q, xz.k.l.length = q := ⟨_, rfl⟩
  have HK0 := Lib.hid (And.intro hk0 hkz)
  clear hk0 hkz hx0 hxz hz
  clear hod hnm h hln h0 hne hF ht hW hF9 W1 R1 hmv he hz1 ho
  go_enter Tryz.func3, Tryz.ntmps3
  go_upto_region 19 with (first
    | (go_at_call 9; refine (wakes_any _).mono ?_; rintro e w0 ⟨rfl, hb⟩; have B0 := Lib.hid hb; clear hb)
    | (go_at_call 11; refine (calm_any _).mono ?_; rintro e w1 ⟨rfl, hb⟩; have B1 := Lib.hid (below_then B0.out hb); clear hb)
    | (go_at_call 10; refine (new_calm w1).mono ?_; rintro e w2 ⟨g, p2, rfl, hps, hv, hb⟩; have E2 : Hid (PSt w2 w.heap.size g p2 ∧ p2.vm = calmV ∧ Below w.heap.size w w2) := Lib.hid ⟨hps.mono B1.out.size, hv, B1.out.trans (hb.mono B1.out.size)⟩; clear hps hv hb)
    | (go_at_call 13; refine (copy_in (HH.out.kept E2.out.2.2)).mono ?_; intro e w3 hc; obtain ⟨l', A', c', he, rfl, hl', -, -, hb⟩ := HH.out.copy hc; have E3 : Hid (ers l' = ers l ∧ LIn w3 A' l' n c' ∧ PSt w3 w.heap.size g p2 ∧ Below w.heap.size w w3) := Lib.hid ⟨he, hl', E2.out.1.kept hb, E2.out.2.2.trans (hb.mono E2.out.2.2.size)⟩; clear hc he hl' hb)
    | (go_at_call 12; refine (write_in (s := s) E3.out.2.1 E3.out.2.2.1 E2.out.2.1 HS.out (fits_calm _ (by decide)) (by decide)).mono ?_; rw [E3.out.1, HW.out]; rintro e w4 ⟨rfl, p4, s4, v4, d4⟩; have E4 : Hid (PSt w4 w.heap.size g p4 ∧ p4.vm = mv ∧ Below w.heap.size w w4) := Lib.hid ⟨s4, v4, E3.out.2.2.2.trans (d4.below E3.out.2.2.2.size (fun k hk => (E3.out.2.2.1.owned k hk).1))⟩; clear s4 v4 d4)
    | (go_at_call 14; refine (ordered_in (HH.out.kept E4.out.2.2)).mono ?_; rw [HOD.out]; rintro e w5 ⟨rfl, hb⟩; have B5 := Lib.hid hb; clear hb)
    | (go_at_call 15; refine (refName_any s _ (by have := HS.out; omega)).mono ?_; rw [HNM.out]; rintro e w' ⟨rfl, hw'⟩; subst hw')
    | (go_at_call 17; refine (open_any w.heap.size g p4 _ s w5 (E4.out.1.kept B5.out) (E4.out.2.1.trans HMV.out) HS.out (fits_lone HS.out (by have := HF9.out; omega)) (fun x hx => by rw [show (loneV s F F.length).fs = [(s, F, (F.length : Int))] from rfl, List.mem_singleton] at hx; subst hx; have := HF9.out; show F.length ≤ _; omega)).mono ?_; rw [HR1.out]; rintro e w6 ⟨b6, h6⟩; obtain ⟨t, hts, rfl, hta, hcnt, hmb⟩ := opened_whole HT.out HWH.out h6; have E6 : Hid (t.tb = tb ∧ TabAt w6 t ∧ t.cnt = (ers l).length ∧ Below w.heap.size w w6 ∧ w5.heap.size ≤ t.mb) := Lib.hid ⟨hts, hta, hcnt, (E4.out.2.2.trans (B5.out.mono E4.out.2.2.size)).trans (b6.mono (by have := E4.out.2.2.size; have := B5.out.size; omega)), hmb⟩; clear hts hta hcnt b6 h6 hmb)
    | (go_at_call 18; refine (all_whole (HH.out.kept E6.out.2.2.2.1) E6.out.2.1 (by rw [E6.out.1]; exact HWH.out) HGD.out).mono ?_; rintro e w7 ⟨l6, A6, c6, he6, rfl, r6, m6, t6, tw6⟩; have E7 : Hid (Below w.heap.size w w7 ∧ TabAt w7 t ∧ ers l6 = ers l ∧ Lies w7 A6 (evals l6) ∧ EIns w7 l6) := Lib.hid ⟨E6.out.2.2.2.1.trans (t6.below (by have := E4.out.2.2.size; have := B5.out.size; have := E6.out.2.2.2.2; omega) E6.out.2.2.2.1.size), tw6.at_, he6, r6.lies, m6.ins (by rw [he6]; exact HH.out.byl)⟩; clear he6 r6 m6 t6 tw6)
    | (go_at_call 19; obtain ⟨r, hr1, hr2, hr3⟩ := bounds_of (t := t) (by rw [E6.out.1]; exact HWH.out) HX0.out HXZ.out (by rw [HH.out.len]; exact HZN.out); refine (bounds_any t r w7 E7.out.2.1.c hr1 (by rw [hr2]; have := (HH.out.small.2 x0 (List.mem_of_getElem? HX0.out)).1; omega) (by rw [hr3]; have := (HH.out.small.2 xz (List.mem_of_getElem? HXZ.out)).1; omega)).mono ?_; rintro e w8 ⟨lo, hi, hlo, hhi, rfl, rlo, rhi, hb⟩; have E8 : Hid (lo.l = x0.k.l ∧ hi.l = xz.k.l ∧ Row w8 w7.heap.size lo.a lo.c lo.l ∧ Row w8 w7.heap.size hi.a hi.c hi.l ∧ Below w7.heap.size w7 w8) := Lib.hid ⟨hlo.trans hr2, hhi.trans hr3, rlo, rhi, hb⟩; unfold Sl.val; clear hr1 hr2 hr3 hlo hhi rlo rhi hb))
  obtain ⟨lon, hlon⟩ : ∃ q, lo.l.length = q := ⟨_, rfl⟩
  obtain ⟨hin, hhin⟩ : ∃ q, hi.l.length = q := ⟨_, rfl⟩
  rw [hlon, hhin]
  have WW : Hid (∀ W, Below w8.heap.size w8 W → Below w7.heap.size w7 W) := Lib.hid (fun W hb => below_then E8.out.2.2.2.2 hb)
  have WB : Hid (∀ W, Below w8.heap.size w8 W → Below w.heap.size w W) := Lib.hid (fun W hb => below_then E7.out.1 (WW.out W hb))
  have HSX : Hid (∀ W, Below w8.heap.size w8 W → (W.cell? ad = some (.slice x0.k.a k0 x0.k.c) ∧ W.cell? (ad.add (z * 4)) = some (.slice xz.k.a kz xz.k.c)) ∧ (convert 42 9 (.slice lo.a lon lo.c)).run Tryz.prog W = .ok (.string (strOfNums x0.k.l)) W ∧ (convert 42 9 (.slice x0.k.a k0 x0.k.c)).run Tryz.prog W = .ok (.string (strOfNums x0.k.l)) W ∧ (convert 42 9 (.slice hi.a hin hi.c)).run Tryz.prog W = .ok (.string (strOfNums xz.k.l)) W ∧ (convert 42 9 (.slice xz.k.a kz xz.k.c)).run Tryz.prog W = .ok (.string (strOfNums xz.k.l)) W) := Lib.hid (fun W hb => by
    have hL := HH.out.kept (WB.out W hb)
    have h0 := (lies_entry_at hL.lies HX0.out).1
    have hz := (lies_entry_at hL.lies HXZ.out).1
    have i0 := (hL.ins x0 (List.mem_of_getElem? HX0.out)).1
    have iz := (hL.ins xz (List.mem_of_getElem? HXZ.out)).1
    have e0 : ad.add (0 * 4) = ad := by
      obtain ⟨a, b, c⟩ := ad
      rfl
    rw [e0] at h0
    rw [HK0.out.1] at h0
    rw [HK0.out.2] at hz
    have r0 := (E8.out.2.2.1.kept hb (Nat.le_refl _)).lies
    have rz := (E8.out.2.2.2.1.kept hb (Nat.le_refl _)).lies
    refine ⟨⟨h0, hz⟩, ?_, conv_any i0.bys k0 _ HK0.out.1, ?_, conv_any iz.bys kz _ HK0.out.2⟩
    · rw [← E8.out.1]
      exact conv_any r0 lon _ hlon
    · rw [← E8.out.2.1]
      exact conv_any rz hin _ hhin)
  have HSM : Hid (∀ W, Below w8.heap.size w8 W → Calls Tryz.prog 20 #[.slice A6 n c6, .slice (some ad) n c] W fun e w' => e = .returned (.bool true) ∧ Below W.heap.size W w') := Lib.hid (fun W hb => by
    have hL := HH.out.kept (WB.out W hb)
    have := refSame_any A6 (some ad) l6 l n n c6 c W (by rw [← ers_len, E7.out.2.2.1, ers_len, HH.out.len]) HH.out.len (E7.out.2.2.2.1.kept (WW.out W hb)) hL.lies (E7.out.2.2.2.2.kept (WW.out W hb)) hL.ins (by have := HH.out.small.1; omega)
    rwa [decide_eq_true E7.out.2.2.1] at this)
  have HCT : Hid (∀ W, Below w8.heap.size w8 W → Calls Tryz.prog 21 #[.pointer (some ⟨t.b, 0, none⟩)] W fun e w' => e = .returned (.int .i64 (n : Int)) ∧ w' = W) := Lib.hid (fun W hb => by
    have := count_any t W (E7.out.2.1.c.kept (WW.out W hb))
    rwa [E6.out.2.2.1, ers_len, HH.out.len] at this)
  have HZ2 : Hid (IntKind.i64.wrap ((n : Int) - 1) = z) := Lib.hid (by have := HZN.out; have := HH.out.small.1; rw [IntKind.wrap_i64]; omega)
  have hj1 : wrap64 ((n : Int) - 1) = (z : Int) := by have := HZN.out; have := HH.out.small.1; unfold wrap64; omega
  have j0 : (z : Int) < n := by have := HZN.out; omega
  have n0 : n ≠ 0 := by have := HZN.out; omega
  have n1 : 0 < n := by omega
  have n2 : (0 : Int) < n := by omega
  clear hlon hhin
  refine wp_region_held (S := fun W => (W.cell? ad = some (.slice x0.k.a k0 x0.k.c) ∧ W.cell? (ad.add (z * 4)) = some (.slice xz.k.a kz xz.k.c)) ∧ (convert 42 9 (.slice lo.a lon lo.c)).run Tryz.prog W = .ok (.string (strOfNums x0.k.l)) W ∧ (convert 42 9 (.slice x0.k.a k0 x0.k.c)).run Tryz.prog W = .ok (.string (strOfNums x0.k.l)) W ∧ (convert 42 9 (.slice hi.a hin hi.c)).run Tryz.prog W = .ok (.string (strOfNums xz.k.l)) W ∧ (convert 42 9 (.slice xz.k.a kz xz.k.c)).run Tryz.prog W = .ok (.string (strOfNums xz.k.l)) W) (by kernel_rfl) ?_
  change wpAnyH _ _ _ _ _ _ _ _ (World.drew _)
  have s0 := HSX.out _ (Below.refl _ _).drew
  refine wpAnyH_take (i := 0) (v := .int .i64 0) rfl (by kernel_rfl) (by kernel_rfl) (by kernel_rfl) (fun _ _ _ h => h) (Or.inl ⟨by first | kernel_rfl | rfl, fun _ hS => by go_simp⟩) s0 ?_
  try simp only [Act.put, List.getElem_toArray, List.getElem_cons_zero, List.getElem_cons_succ, List.setIfInBounds_toArray, List.set_cons_zero, List.set_cons_succ]
  refine wpAnyH_take (i := 1) (v := .bool true) rfl (by kernel_rfl) (by kernel_rfl) (by kernel_rfl) (fun _ _ _ h => h) (Or.inl ⟨by first | kernel_rfl | rfl, fun _ hS => by go_simp⟩) s0 ?_
  try simp only [Act.put, List.getElem_toArray, List.getElem_cons_zero, List.getElem_cons_succ, List.setIfInBounds_toArray, List.set_cons_zero, List.set_cons_succ]
  refine wpAnyH_take (i := 2) (v := .bool true) rfl (by kernel_rfl) (by kernel_rfl) (by kernel_rfl) (fun _ _ _ h => h) (Or.inl ⟨by first | kernel_rfl | rfl, fun _ hS => by go_simp⟩) s0 ?_
  try simp only [Act.put, List.getElem_toArray, List.getElem_cons_zero, List.getElem_cons_succ, List.setIfInBounds_toArray, List.set_cons_zero, List.set_cons_succ]
  refine wpAnyH_take (i := 3) (v := .slice A6 n c6) rfl (by kernel_rfl) (by kernel_rfl) (by kernel_rfl) (fun _ _ _ h => h) (Or.inl ⟨by first | kernel_rfl | rfl, fun _ hS => by go_simp⟩) s0 ?_
  try simp only [Act.put, List.getElem_toArray, List.getElem_cons_zero, List.getElem_cons_succ, List.setIfInBounds_toArray, List.set_cons_zero, List.set_cons_succ]
  refine wpAnyH_take (i := 4) (v := .slice (some ad) n c) rfl (by kernel_rfl) (by kernel_rfl) (by kernel_rfl) (fun _ _ _ h => h) (Or.inl ⟨by first | kernel_rfl | rfl, fun _ hS => by go_simp⟩) s0 ?_
  try simp only [Act.put, List.getElem_toArray, List.getElem_cons_zero, List.getElem_cons_succ, List.setIfInBounds_toArray, List.set_cons_zero, List.set_cons_succ]
  refine wpAnyH_ready (rs := [5]) (by kernel_rfl) (by simp) ?_
  refine AllReadyH.cons rfl (fun K hK => ?_) AllReadyH.nil
  go_simp
  go_at_call 20
  refine (HSM.out _ (Below.refl _ _).drew).mono ?_
  rintro e w9 ⟨rfl, hb⟩
  have B9 : Hid (Below w8.heap.size w8 w9) := Lib.hid (below_then (Below.refl _ _).drew hb)
  clear hb
  refine hK.out _ _ (HSX.out _ B9.out) (fun _ => ?_)
  clear hK K
  try simp only [Act.put, List.getElem_toArray, List.getElem_cons_zero, List.getElem_cons_succ, List.setIfInBounds_toArray, List.set_cons_zero, List.set_cons_succ]
  have s1 := HSX.out _ B9.out
  refine wpAnyH_take (i := 6) (v := .bool true) rfl (by kernel_rfl) (by kernel_rfl) (by kernel_rfl) (fun _ _ _ h => h) (Or.inl ⟨by first | kernel_rfl | rfl, fun _ hS => by go_simp⟩) s1 ?_
  try simp only [Act.put, List.getElem_toArray, List.getElem_cons_zero, List.getElem_cons_succ, List.setIfInBounds_toArray, List.set_cons_zero, List.set_cons_succ]
  refine wpAnyH_take (i := 7) (v := .bool true) rfl (by kernel_rfl) (by kernel_rfl) (by kernel_rfl) (fun _ _ _ h => h) (Or.inl ⟨by first | kernel_rfl | rfl, fun _ hS => by go_simp⟩) s1 ?_
  try simp only [Act.put, List.getElem_toArray, List.getElem_cons_zero, List.getElem_cons_succ, List.setIfInBounds_toArray, List.set_cons_zero, List.set_cons_succ]
  refine wpAnyH_take (i := 8) (v := .pointer (some ⟨t.b, 0, none⟩)) rfl (by kernel_rfl) (by kernel_rfl) (by kernel_rfl) (fun _ _ _ h => h) (Or.inl ⟨by first | kernel_rfl | rfl, fun _ hS => by go_simp⟩) s1 ?_
  try simp only [Act.put, List.getElem_toArray, List.getElem_cons_zero, List.getElem_cons_succ, List.setIfInBounds_toArray, List.set_cons_zero, List.set_cons_succ]
  refine wpAnyH_take (i := 10) (v := .slice (some ad) n c) rfl (by kernel_rfl) (by kernel_rfl) (by kernel_rfl) (fun _ _ _ h => h) (Or.inl ⟨by first | kernel_rfl | rfl, fun _ hS => by go_simp⟩) s1 ?_
  try simp only [Act.put, List.getElem_toArray, List.getElem_cons_zero, List.getElem_cons_succ, List.setIfInBounds_toArray, List.set_cons_zero, List.set_cons_succ]
  refine wpAnyH_take (i := 11) (v := .int .i64 (n : Int)) rfl (by kernel_rfl) (by kernel_rfl) (by kernel_rfl) (fun _ _ _ h => h) (Or.inl ⟨by first | kernel_rfl | rfl, fun _ hS => by go_simp⟩) s1 ?_
  try simp only [Act.put, List.getElem_toArray, List.getElem_cons_zero, List.getElem_cons_succ, List.setIfInBounds_toArray, List.set_cons_zero, List.set_cons_succ]
  refine wpAnyH_ready (rs := [9]) (by kernel_rfl) (by simp) ?_
  refine AllReadyH.cons rfl (fun K hK => ?_) AllReadyH.nil
  go_simp
  go_at_call 21
  refine (HCT.out _ B9.out).mono ?_
  rintro e w' ⟨rfl, rfl⟩
  refine hK.out _ _ s1 (fun _ => ?_)
  clear hK K
  try simp only [Act.put, List.getElem_toArray, List.getElem_cons_zero, List.getElem_cons_succ, List.setIfInBounds_toArray, List.set_cons_zero, List.set_cons_succ]
  refine wpAnyH_take (i := 12) (v := .bool true) rfl (by kernel_rfl) (by kernel_rfl) (by kernel_rfl) (fun _ _ _ h => h) (Or.inl ⟨by first | kernel_rfl | rfl, fun _ hS => by go_simp⟩) s1 ?_
  try simp only [Act.put, List.getElem_toArray, List.getElem_cons_zero, List.getElem_cons_succ, List.setIfInBounds_toArray, List.set_cons_zero, List.set_cons_succ]
  refine wpAnyH_take (i := 13) (v := .bool true) rfl (by kernel_rfl) (by kernel_rfl) (by kernel_rfl) (fun _ _ _ h => h) (Or.inl ⟨by first | kernel_rfl | rfl, fun _ hS => by go_simp⟩) s1 ?_
  try simp only [Act.put, List.getElem_toArray, List.getElem_cons_zero, List.getElem_cons_succ, List.setIfInBounds_toArray, List.set_cons_zero, List.set_cons_succ]
  refine wpAnyH_take (i := 14) (v := .bool true) rfl (by kernel_rfl) (by kernel_rfl) (by kernel_rfl) (fun _ _ _ h => h) (Or.inl ⟨by first | kernel_rfl | rfl, fun _ hS => by go_simp⟩) s1 ?_
  try simp only [Act.put, List.getElem_toArray, List.getElem_cons_zero, List.getElem_cons_succ, List.setIfInBounds_toArray, List.set_cons_zero, List.set_cons_succ]
  refine wpAnyH_take (i := 15) (v := .slice lo.a lon lo.c) rfl (by kernel_rfl) (by kernel_rfl) (by kernel_rfl) (fun _ _ _ h => h) (Or.inl ⟨by first | kernel_rfl | rfl, fun _ hS => by go_simp⟩) s1 ?_
  try simp only [Act.put, List.getElem_toArray, List.getElem_cons_zero, List.getElem_cons_succ, List.setIfInBounds_toArray, List.set_cons_zero, List.set_cons_succ]
  refine wpAnyH_take (i := 16) (v := .string (strOfNums x0.k.l)) rfl (by kernel_rfl) (by kernel_rfl) (by kernel_rfl) (fun _ _ _ h => h) (Or.inl ⟨by first | kernel_rfl | rfl, fun _ hS => by obtain ⟨⟨k1, k2⟩, k3, k4, k5, k6⟩ := hS; go_simp⟩) s1 ?_
  try simp only [Act.put, List.getElem_toArray, List.getElem_cons_zero, List.getElem_cons_succ, List.setIfInBounds_toArray, List.set_cons_zero, List.set_cons_succ]
  refine wpAnyH_take (i := 17) (v := .slice (some ad) n c) rfl (by kernel_rfl) (by kernel_rfl) (by kernel_rfl) (fun _ _ _ h => h) (Or.inl ⟨by first | kernel_rfl | rfl, fun _ hS => by go_simp⟩) s1 ?_
  try simp only [Act.put, List.getElem_toArray, List.getElem_cons_zero, List.getElem_cons_succ, List.setIfInBounds_toArray, List.set_cons_zero, List.set_cons_succ]
  refine wpAnyH_take (i := 18) (v := .pointer (some ad)) rfl (by kernel_rfl) (by kernel_rfl) (by kernel_rfl) (fun _ _ _ h => h) (Or.inl ⟨by first | kernel_rfl | rfl, fun _ hS => by go_simp⟩) s1 ?_
  try simp only [Act.put, List.getElem_toArray, List.getElem_cons_zero, List.getElem_cons_succ, List.setIfInBounds_toArray, List.set_cons_zero, List.set_cons_succ]
  refine wpAnyH_take (i := 19) (v := .pointer (some ad)) rfl (by kernel_rfl) (by kernel_rfl) (by kernel_rfl) (fun _ _ _ h => h) (Or.inl ⟨by first | kernel_rfl | rfl, fun _ hS => by go_simp⟩) s1 ?_
  try simp only [Act.put, List.getElem_toArray, List.getElem_cons_zero, List.getElem_cons_succ, List.setIfInBounds_toArray, List.set_cons_zero, List.set_cons_succ]
  refine wpAnyH_take (i := 20) (v := .slice x0.k.a k0 x0.k.c) rfl (by kernel_rfl) (by kernel_rfl) (by kernel_rfl) (fun _ _ _ h => h) (Or.inl ⟨by first | kernel_rfl | rfl, fun _ hS => by obtain ⟨⟨k1, k2⟩, k3, k4, k5, k6⟩ := hS; go_simp⟩) s1 ?_
  try simp only [Act.put, List.getElem_toArray, List.getElem_cons_zero, List.getElem_cons_succ, List.setIfInBounds_toArray, List.set_cons_zero, List.set_cons_succ]
  refine wpAnyH_take (i := 21) (v := .string (strOfNums x0.k.l)) rfl (by kernel_rfl) (by kernel_rfl) (by kernel_rfl) (fun _ _ _ h => h) (Or.inl ⟨by first | kernel_rfl | rfl, fun _ hS => by obtain ⟨⟨k1, k2⟩, k3, k4, k5, k6⟩ := hS; go_simp⟩) s1 ?_
  try simp only [Act.put, List.getElem_toArray, List.getElem_cons_zero, List.getElem_cons_succ, List.setIfInBounds_toArray, List.set_cons_zero, List.set_cons_succ]
  refine wpAnyH_take (i := 22) (v := .bool true) rfl (by kernel_rfl) (by kernel_rfl) (by kernel_rfl) (fun _ _ _ h => h) (Or.inl ⟨by first | kernel_rfl | rfl, fun _ hS => by go_simp⟩) s1 ?_
  try simp only [Act.put, List.getElem_toArray, List.getElem_cons_zero, List.getElem_cons_succ, List.setIfInBounds_toArray, List.set_cons_zero, List.set_cons_succ]
  refine wpAnyH_take (i := 23) (v := .bool true) rfl (by kernel_rfl) (by kernel_rfl) (by kernel_rfl) (fun _ _ _ h => h) (Or.inl ⟨by first | kernel_rfl | rfl, fun _ hS => by go_simp⟩) s1 ?_
  try simp only [Act.put, List.getElem_toArray, List.getElem_cons_zero, List.getElem_cons_succ, List.setIfInBounds_toArray, List.set_cons_zero, List.set_cons_succ]
  refine wpAnyH_take (i := 24) (v := .bool true) rfl (by kernel_rfl) (by kernel_rfl) (by kernel_rfl) (fun _ _ _ h => h) (Or.inl ⟨by first | kernel_rfl | rfl, fun _ hS => by go_simp⟩) s1 ?_
  try simp only [Act.put, List.getElem_toArray, List.getElem_cons_zero, List.getElem_cons_succ, List.setIfInBounds_toArray, List.set_cons_zero, List.set_cons_succ]
  refine wpAnyH_take (i := 25) (v := .slice hi.a hin hi.c) rfl (by kernel_rfl) (by kernel_rfl) (by kernel_rfl) (fun _ _ _ h => h) (Or.inl ⟨by first | kernel_rfl | rfl, fun _ hS => by go_simp⟩) s1 ?_
  try simp only [Act.put, List.getElem_toArray, List.getElem_cons_zero, List.getElem_cons_succ, List.setIfInBounds_toArray, List.set_cons_zero, List.set_cons_succ]
  refine wpAnyH_take (i := 26) (v := .string (strOfNums xz.k.l)) rfl (by kernel_rfl) (by kernel_rfl) (by kernel_rfl) (fun _ _ _ h => h) (Or.inl ⟨by first | kernel_rfl | rfl, fun _ hS => by obtain ⟨⟨k1, k2⟩, k3, k4, k5, k6⟩ := hS; go_simp⟩) s1 ?_
  try simp only [Act.put, List.getElem_toArray, List.getElem_cons_zero, List.getElem_cons_succ, List.setIfInBounds_toArray, List.set_cons_zero, List.set_cons_succ]
  refine wpAnyH_take (i := 27) (v := .slice (some ad) n c) rfl (by kernel_rfl) (by kernel_rfl) (by kernel_rfl) (fun _ _ _ h => h) (Or.inl ⟨by first | kernel_rfl | rfl, fun _ hS => by go_simp⟩) s1 ?_
  try simp only [Act.put, List.getElem_toArray, List.getElem_cons_zero, List.getElem_cons_succ, List.setIfInBounds_toArray, List.set_cons_zero, List.set_cons_succ]
  refine wpAnyH_take (i := 28) (v := .slice (some ad) n c) rfl (by kernel_rfl) (by kernel_rfl) (by kernel_rfl) (fun _ _ _ h => h) (Or.inl ⟨by first | kernel_rfl | rfl, fun _ hS => by go_simp⟩) s1 ?_
  try simp only [Act.put, List.getElem_toArray, List.getElem_cons_zero, List.getElem_cons_succ, List.setIfInBounds_toArray, List.set_cons_zero, List.set_cons_succ]
  refine wpAnyH_take (i := 29) (v := .int .i64 (n : Int)) rfl (by kernel_rfl) (by kernel_rfl) (by kernel_rfl) (fun _ _ _ h => h) (Or.inl ⟨by first | kernel_rfl | rfl, fun _ hS => by go_simp⟩) s1 ?_
  try simp only [Act.put, List.getElem_toArray, List.getElem_cons_zero, List.getElem_cons_succ, List.setIfInBounds_toArray, List.set_cons_zero, List.set_cons_succ]
  refine wpAnyH_take (i := 30) (v := .int .i64 (z : Int)) rfl (by kernel_rfl) (by kernel_rfl) (by kernel_rfl) (fun _ _ _ h => h) (Or.inl ⟨by first | kernel_rfl | rfl, fun _ hS => by go_simp; exact HZ2.out⟩) s1 ?_
  try simp only [Act.put, List.getElem_toArray, List.getElem_cons_zero, List.getElem_cons_succ, List.setIfInBounds_toArray, List.set_cons_zero, List.set_cons_succ]
  refine wpAnyH_take (i := 31) (v := .pointer (some (ad.add (z * 4)))) rfl (by kernel_rfl) (by kernel_rfl) (by kernel_rfl) (fun _ _ _ h => h) (Or.inl ⟨by first | kernel_rfl | rfl, fun _ hS => by go_simp⟩) s1 ?_
  try simp only [Act.put, List.getElem_toArray, List.getElem_cons_zero, List.getElem_cons_succ, List.setIfInBounds_toArray, List.set_cons_zero, List.set_cons_succ]
  refine wpAnyH_take (i := 32) (v := .pointer (some (ad.add (z * 4)))) rfl (by kernel_rfl) (by kernel_rfl) (by kernel_rfl) (fun _ _ _ h => h) (Or.inl ⟨by first | kernel_rfl | rfl, fun _ hS => by go_simp⟩) s1 ?_
  try simp only [Act.put, List.getElem_toArray, List.getElem_cons_zero, List.getElem_cons_succ, List.setIfInBounds_toArray, List.set_cons_zero, List.set_cons_succ]
  refine wpAnyH_take (i := 33) (v := .slice xz.k.a kz xz.k.c) rfl (by kernel_rfl) (by kernel_rfl) (by kernel_rfl) (fun _ _ _ h => h) (Or.inl ⟨by first | kernel_rfl | rfl, fun _ hS => by obtain ⟨⟨k1, k2⟩, k3, k4, k5, k6⟩ := hS; go_simp⟩) s1 ?_
  try simp only [Act.put, List.getElem_toArray, List.getElem_cons_zero, List.getElem_cons_succ, List.setIfInBounds_toArray, List.set_cons_zero, List.set_cons_succ]
  refine wpAnyH_take (i := 34) (v := .string (strOfNums xz.k.l)) rfl (by kernel_rfl) (by kernel_rfl) (by kernel_rfl) (fun _ _ _ h => h) (Or.inl ⟨by first | kernel_rfl | rfl, fun _ hS => by obtain ⟨⟨k1, k2⟩, k3, k4, k5, k6⟩ := hS; go_simp⟩) s1 ?_
  try simp only [Act.put, List.getElem_toArray, List.getElem_cons_zero, List.getElem_cons_succ, List.setIfInBounds_toArray, List.set_cons_zero, List.set_cons_succ]
  refine wpAnyH_take (i := 35) (v := .bool true) rfl (by kernel_rfl) (by kernel_rfl) (by kernel_rfl) (fun _ _ _ h => h) (Or.inl ⟨by first | kernel_rfl | rfl, fun _ hS => by go_simp⟩) s1 ?_
  try simp only [Act.put, List.getElem_toArray, List.getElem_cons_zero, List.getElem_cons_succ, List.setIfInBounds_toArray, List.set_cons_zero, List.set_cons_succ]
  refine wpAnyH_take (i := 36) (v := .bool true) rfl (by kernel_rfl) (by kernel_rfl) (by kernel_rfl) (fun _ _ _ h => h) (Or.inl ⟨by first | kernel_rfl | rfl, fun _ hS => by go_simp⟩) s1 ?_
  try simp only [Act.put, List.getElem_toArray, List.getElem_cons_zero, List.getElem_cons_succ, List.setIfInBounds_toArray, List.set_cons_zero, List.set_cons_succ]
  refine wpAnyH_take (i := 37) (v := .bool true) rfl (by kernel_rfl) (by kernel_rfl) (by kernel_rfl) (fun _ _ _ h => h) (Or.inl ⟨by first | kernel_rfl | rfl, fun _ hS => by go_simp⟩) s1 ?_
  try simp only [Act.put, List.getElem_toArray, List.getElem_cons_zero, List.getElem_cons_succ, List.setIfInBounds_toArray, List.set_cons_zero, List.set_cons_succ]
  refine wpAnyH_done (by kernel_rfl) ?_ _
  try simp only [Act.put, List.getElem_toArray, List.getElem_cons_zero, List.getElem_cons_succ, List.setIfInBounds_toArray, List.set_cons_zero, List.set_cons_succ]
  go_wp2_with fail
  go_ret
  exact ⟨rfl, WB.out _ B9.out⟩
end Go.Proofs.YtnoccpafjaoopaaGreat
