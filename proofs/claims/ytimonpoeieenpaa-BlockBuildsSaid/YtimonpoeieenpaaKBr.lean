/-
  Walks: a key looked for, by the document.
-/
import Derived.Test.YtimonpoeieenpaaKBp
namespace Go.Proofs.Ytimonpoeieenpaa
open Go.RowKit

/-- What looking for a key answers. -/
def GotF (w : World) (p : List Int × Bool × Int) (e : Ending) (w' : World) : Prop :=
  ∃ A c, e = .returned (.tuple #[.slice A p.1.length c, .bool p.2.1, .int .i64 p.2.2]) ∧ In w' A p.1 p.1.length c ∧ Below w.heap.size w w'
theorem gotF_none {w w' : World} {r : Int} {e : Ending} (h : e = .returned (.tuple #[.slice none 0 0, .bool false, .int .i64 r]) ∧ Below w.heap.size w w') : GotF w ([], false, r) e w' := by
  obtain ⟨rfl, hb⟩ := h
  exact ⟨none, 0, rfl, ⟨rfl, Nat.le_refl _, by decide, .inl rfl, Byt.nil⟩, hb⟩
theorem findP_bad {L k : List Int} (h : (readP L).2 ≠ 0) : findP L k = ([], false, (readP L).2) := by unfold findP; rw [if_pos h]
theorem findP_some {L k : List Int} {p : Pr} (h : (readP L).2 = 0) (g : seekP k (readP L).1 = some p) : findP L k = (p.2, true, 0) := by unfold findP; rw [if_neg (fun e => e h), g]
theorem findP_none {L k : List Int} (h : (readP L).2 = 0) (g : seekP k (readP L).1 = none) : findP L k = ([], false, 0) := by unfold findP; rw [if_neg (fun e => e h), g]
theorem seek_hit {l : List Pr} {k : List Int} {i : Nat} {p : Pr} (h : seekP k (l.take i) = none) (hp : l[i]? = some p) (e : p.1 = k) : seekP k l = some p := by
  have e1 : l = l.take i ++ p :: l.drop (i + 1) := by
    obtain ⟨hi, hx⟩ := List.getElem?_eq_some_iff.1 hp
    rw [← hx, ← List.drop_eq_getElem_cons hi, List.take_append_drop]
  rw [e1]
  unfold seekP at h ⊢
  rw [List.find?_append, h]
  simp [List.find?, e]
theorem seek_miss {l : List Pr} {k : List Int} {i : Nat} {p : Pr} (h : seekP k (l.take i) = none) (hp : l[i]? = some p) (e : p.1 ≠ k) : seekP k (l.take (i + 1)) = none := by
  rw [take_next hp, seekP_old e]
  exact h

set_option maxRecDepth 100000 in
set_option maxHeartbeats 4000000 in
theorem refFind_any (A C : Option Addr) (L K : List Int) (n c m d : Nat) (w : World) (h : In w A L n c) (g : In w C K m d) (hn : n ≤ 140737488355328) :
    Calls Try.prog 14 #[.slice A n c, .slice C m d] w (GotF w (findP L K)) := by
  have HRD := Lib.hid (refRead_any A L n c w h hn)
  have HJ := Lib.hid g
  have HFB := Lib.hid (findP_bad (L := L) (k := K))
  have HFS := Lib.hid (fun p => findP_some (L := L) (k := K) (p := p))
  have HFN := Lib.hid (findP_none (L := L) (k := K))
  have hform : (readP L).2 = 0 → (readP L).1.length ≤ 4096 := fun e => (readP_form (L := L) (l := (readP L).1) h.byt (Prod.ext rfl e)).short.1
  have HFO := Lib.hid hform
  clear h g hn hform
  generalize readP L = R at HRD HFB HFS HFN HFO
  obtain ⟨ps, er⟩ := R
  simp only at HFB HFS HFN HFO
  by_cases he : er = 0
  case neg =>
    have HV := Lib.hid (HFB.out he)
    have he' : (er != 0) = true := by simpa using he
    clear he
    go_enter Try.func14, Try.ntmps14
    go_wp2_with (go_at_call 17; refine HRD.out.mono ?_; rintro e w1 ⟨l, A1, c1, h1, rfl, h3, h4, h5⟩; have B1 := Lib.hid h5; clear h1 h3 h4 h5)
    go_ret3
    rw [HV.out]
    exact gotF_none ⟨rfl, B1.out⟩
  subst he
  have HL4 := Lib.hid (HFO.out (by first | rfl | trivial))
  go_enter Try.func14, Try.ntmps14
  go_wp2_with (go_at_call 17; refine HRD.out.mono ?_; rintro e w1 ⟨l, A1, c1, h1, rfl, h3, h4, h5⟩; have E1 := Lib.hid (And.intro h1 (And.intro h3 (And.intro h4 h5))); clear h1 h3 h4 h5)
  obtain ⟨z, hz⟩ : ∃ z, l.length = z := ⟨_, rfl⟩
  have HZ := Lib.hid hz
  rw [hz]
  clear hz
  have HZ4 : Hid (z ≤ 4096) := Lib.hid (by rw [← HZ.out, ← rds_len, E1.out.1]; exact HL4.out)
  go_wp2_with fail
  go_loopw [20] (fun t20 wr => ∃ i x : Nat, i ≤ z ∧ t20 = .int .i64 i ∧ wr = w1.drewN x ∧ Hid (seekP K (ps.take i) = none)) (fun t20 _ => z - (intOf t20).toNat)
  case atStart => exact ⟨0, 0, by omega, rfl, rfl, Lib.hid rfl⟩
  case round =>
    obtain ⟨i, x, hi, rfl, rfl, hsk⟩ := hrel
    by_cases hlt : i < z
    · have hq := List.getElem?_eq_getElem (l := l) (i := i) (by have := HZ.out; omega)
      generalize l[i]'(by have := HZ.out; omega) = q at hq
      obtain ⟨ad, rfl, a0, a1⟩ := lies_pair E1.out.2.2.1.lies hq
      have HX := Lib.hid (E1.out.2.1 q (List.mem_of_getElem? hq))
      have HQ : Hid (ps[i]? = some q.rd) := Lib.hid (by rw [← E1.out.1]; exact rds_get hq)
      clear hq
      obtain ⟨⟨ka, kc, kl⟩, ⟨va, vc, vl⟩⟩ := q
      simp only at a0 a1
      have C0 := conv_drew HX.out.1.in_.bys kl.length kc rfl
      have C1 := conv_drew (HJ.out.kept E1.out.2.2.2).bys m d HJ.out.len
      have HD := Lib.hid (toList_dec HX.out.1.in_.byt HJ.out.byt)
      simp only at HD
      obtain ⟨u, hu⟩ : ∃ u, kl.length = u := ⟨_, rfl⟩
      obtain ⟨v, hv⟩ : ∃ v, vl.length = v := ⟨_, rfl⟩
      rw [hu] at a0 C0
      rw [hv] at a1
      have HVL := Lib.hid hv
      clear hu hv
      have i0 : (i : Int) < z := by omega
      by_cases e : kl = K
      · have d1 : ((strOfNums kl).toList == (strOfNums K).toList) = true := by rw [HD.out]; simpa using e
        have HV := Lib.hid (HFS.out _ (by first | rfl | trivial) (seek_hit hsk.out HQ.out e))
        clear e
        go_upto_region 7 with fail
        go_quiet (fail)
        go_wp2_with fail
        go_ret3
        rw [HV.out]
        have hin := HX.out.2.in_
        refine ⟨va, vc, by simp only [Bp.rd, HVL.out]; rfl, ?_, by repeat (first | exact E1.out.2.2.2 | refine below_drewN ?_ _)⟩
        simp only [Bp.rd]
        exact hin.kept (by repeat (first | exact Below.refl _ _ | refine below_drewN ?_ _))
      · have d1 : ((strOfNums kl).toList == (strOfNums K).toList) = false := by rw [HD.out]; simpa using e
        have HV := Lib.hid (seek_miss hsk.out HQ.out e)
        have hz4 : (z : Int) ≤ 4096 := by have := HZ4.out; omega
        clear e
        go_upto_region 7 with fail
        go_quiet (fail)
        go_wp2_with fail
        go_roundw
        case rel => exact ⟨i + 1, _, by omega, by go_num, rfl, HV⟩
        case measure => simp [intOf]; omega
    · obtain rfl : i = z := by omega
      have hsk' := hsk.out
      rw [List.take_of_length_le (by rw [← E1.out.1, rds_len, HZ.out]; exact Nat.le_refl _)] at hsk'
      have HV := Lib.hid (HFN.out (by first | rfl | trivial) hsk')
      clear hsk'
      go_wp2_with fail
      go_ret3
      rw [HV.out]
      exact gotF_none ⟨rfl, below_drewN E1.out.2.2.2 _⟩

end Go.Proofs.Ytimonpoeieenpaa
