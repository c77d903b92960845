/-
  Walks: rows compared, by the program.
-/
import Derived.Test.YtaedhedbmbmdoaaWkJ
namespace Go.Proofs.Ytaedhedbmbmdoaa
open Go.RowKit

theorem cmpR_step {ps qs : List Pt} {k : Nat} {p q : Pt} {R : Int} (h : cmpR (ps.drop k) (qs.drop k) = R) (hp : ps[k]? = some p) (hq : qs[k]? = some q) : if cmpP p q ≠ 0 then R = cmpP p q else cmpR (ps.drop (k + 1)) (qs.drop (k + 1)) = R := by
  have ep : ps.drop k = p :: ps.drop (k + 1) := by
    obtain ⟨hk, e⟩ := List.getElem?_eq_some_iff.1 hp
    rw [List.drop_eq_getElem_cons hk, e]
  have eq : qs.drop k = q :: qs.drop (k + 1) := by
    obtain ⟨hk, e⟩ := List.getElem?_eq_some_iff.1 hq
    rw [List.drop_eq_getElem_cons hk, e]
  rw [ep, eq, cmpR] at h
  split
  · next g => rw [if_pos g] at h; exact h.symm
  · next g => rw [if_neg g] at h; exact h
theorem cmpR_long {ps qs : List Pt} {k : Nat} {R : Int} (h : cmpR (ps.drop k) (qs.drop k) = R) (hp : k < ps.length) (hq : qs.length ≤ k) : R = 1 := by
  rw [List.drop_eq_getElem_cons hp, List.drop_of_length_le hq] at h
  exact h.symm
theorem cmpR_end {ps qs : List Pt} {k : Nat} {R : Int} (h : cmpR (ps.drop k) (qs.drop k) = R) (hp : ps.length ≤ k) : R = if k < qs.length then -1 else 0 := by
  rw [List.drop_of_length_le hp] at h
  split
  · next g => rw [List.drop_eq_getElem_cons g] at h; exact h.symm
  · next g => rw [List.drop_of_length_le (by omega)] at h; exact h.symm
theorem cmpP_three (p q : Pt) : cmpP p q = -1 ∨ cmpP p q = 0 ∨ cmpP p q = 1 := by
  unfold cmpP
  split
  · split
    · exact .inl rfl
    · exact .inr (.inr rfl)
  · split
    · exact cmpL_three _ _
    · unfold cmpI
      split
      · exact .inl rfl
      · split
        · exact .inr (.inr rfl)
        · exact .inr (.inl rfl)
theorem pts_get {l : List Qt} {k : Nat} {q : Qt} (h : l[k]? = some q) : (l.map Qt.pt)[k]? = some q.pt := by simp [h]

set_option maxRecDepth 100000 in
set_option maxHeartbeats 4000000 in
theorem cmpFunc_any (A C : Option Addr) (a b : List Qt) (n m c d : Nat) (w : World) (hn : a.length = n) (hm : b.length = m) (hc : n ≤ 140737488351232) (hd : m ≤ 140737488351232) (ha : Pts w A a) (hb : Pts w C b) :
    Calls Try.prog 29 #[.slice A n c, .slice C m d, .func (.func 30) #[] #[]] w (Says w (cmpR (a.map Qt.pt) (b.map Qt.pt))) := by
  have HA := Lib.hid (fun (w' : World) (hb : Below w.heap.size w w') => ha.kept hb)
  have HC := Lib.hid (fun (w' : World) (h : Below w.heap.size w w') => hb.kept h)
  have HN := Lib.hid hn
  have HM := Lib.hid hm
  obtain ⟨R, hR⟩ : ∃ R, cmpR (a.map Qt.pt) (b.map Qt.pt) = R := ⟨_, rfl⟩
  have HR : Hid (cmpR ((a.map Qt.pt).drop 0) ((b.map Qt.pt).drop 0) = R) := Lib.hid (by simpa using hR)
  rw [hR]
  clear ha hb hn hm hR
  go_enter Try.func29, Try.ntmps29
  go_wp2_with fail
  go_loopw [13] (fun t13 wr => ∃ k : Nat, k ≤ n ∧ k ≤ m ∧ t13 = .int .i64 k ∧ Hid (cmpR ((a.map Qt.pt).drop k) ((b.map Qt.pt).drop k) = R) ∧ Hid (Below w.heap.size w wr)) (fun t13 _ => n - (intOf t13).toNat)
  case atStart => exact ⟨0, by omega, by omega, rfl, HR, Lib.hid (Below.refl _ _)⟩
  case round =>
    obtain ⟨k, hk, hkm, rfl, hr, hbl⟩ := hrel
    by_cases hlt : k < n
    · have hp := List.getElem?_eq_getElem (l := a) (i := k) (by have := HN.out; omega)
      generalize a[k]'(by have := HN.out; omega) = p at hp
      obtain ⟨ad, rfl, a0, a1, a2⟩ := (HA.out _ hbl.out).at_ hp
      have HP := Lib.hid hp
      clear hp
      by_cases hlm : k < m
      · have hq := List.getElem?_eq_getElem (l := b) (i := k) (by have := HM.out; omega)
        generalize b[k]'(by have := HM.out; omega) = q at hq
        have HZ := Lib.hid hbl.out.size
        obtain ⟨bd, rfl, b0, b1, b2⟩ := (HC.out _ (hbl.out.alloc HZ.out (.cells #[.bool p.t, .int .i64 p.num, .string p.s] 41))).at_ hq
        have HQ := Lib.hid hq
        have HS := Lib.hid (cmpR_step hr.out (pts_get HP.out) (pts_get hq))
        have h3 := cmpP_three p.pt q.pt
        have HG := Lib.hid (fun w => cmpPart_any p q w)
        clear hq
        generalize cmpP p.pt q.pt = z at HS h3 HG
        unfold Qt.val at HG
        by_cases hz : z = 0
        · subst hz
          clear h3
          go_wp2_with (go_at_call 30; refine (HG.out _).mono ?_; rintro e w1 ⟨rfl, b1⟩; have B1 := Lib.hid (((hbl.out.alloc HZ.out _).alloc (by have := HZ.out; simp; omega) _).trans (b1.mono (by have := HZ.out; simp; omega))); clear b1)
          go_roundw
          case rel => exact ⟨k + 1, by omega, by omega, by go_num, Lib.hid (by have := HS.out; rwa [if_neg (by simp)] at this), B1⟩
          case measure => simp [intOf]; omega
        · have hz' : (z != 0) = true := by simpa using hz
          have HW : Hid (R = z) := Lib.hid (by have := HS.out; rwa [if_pos hz] at this)
          clear hz h3 HS
          go_wp2_with (go_at_call 30; refine (HG.out _).mono ?_; rintro e w1 ⟨rfl, b1⟩; have B1 := Lib.hid (((hbl.out.alloc HZ.out _).alloc (by have := HZ.out; simp; omega) _).trans (b1.mono (by have := HZ.out; simp; omega))); clear b1)
          go_ret
          exact ⟨ret_int HW.out.symm, B1.out⟩
      · have HW := Lib.hid (cmpR_long hr.out (by have := HN.out; simp; omega) (by have := HM.out; simp; omega))
        have hmk : m ≤ k := by omega
        have HZ := Lib.hid hbl.out.size
        clear hlm
        go_wp2_with fail
        go_ret
        exact ⟨ret_int HW.out.symm, hbl.out.alloc HZ.out _⟩
    · obtain rfl : k = n := by omega
      have HW := Lib.hid (cmpR_end hr.out (by have := HN.out; simp; omega))
      by_cases hnm : k < m
      · have HV : Hid (R = -1) := Lib.hid (by rw [HW.out, if_pos (by have := HM.out; simp; omega)])
        go_wp2_with fail
        go_ret
        exact ⟨ret_int HV.out.symm, hbl.out⟩
      · have HV : Hid (R = 0) := Lib.hid (by rw [HW.out, if_neg (by have := HM.out; simp; omega)])
        go_wp2_with fail
        go_ret
        exact ⟨ret_int HV.out.symm, hbl.out⟩

theorem compare_any (A C : Option Addr) (a b : List Qt) (n m c d : Nat) (w : World) (hn : a.length = n) (hm : b.length = m) (hc : n ≤ 140737488351232) (hd : m ≤ 140737488351232) (ha : Pts w A a) (hb : Pts w C b) :
    Calls Try.prog 16 #[.slice A n c, .slice C m d] w (Says w (cmpR (a.map Qt.pt) (b.map Qt.pt))) := by
  have H := Lib.hid (cmpFunc_any A C a b n m c d w hn hm hc hd ha hb)
  generalize cmpR (a.map Qt.pt) (b.map Qt.pt) = R at H ⊢
  clear ha hb
  go_enter Try.func16, Try.ntmps16
  go_wp2_with (go_at_call 29; refine H.out.mono ?_; rintro e w1 ⟨rfl, b1⟩; have B1 := Lib.hid b1; clear b1)
  go_ret
  exact ⟨rfl, B1.out⟩

end Go.Proofs.Ytaedhedbmbmdoaa
