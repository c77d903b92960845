/-
  Walks: bytes compared, rows compared, by the document.
-/
import Derived.Test.YtaedhedbmbmdoaaWkL
import Derived.Deep.QuietTactic
import Derived.BigQuiet
namespace Go.Proofs.Ytaedhedbmbmdoaa
open Go.RowKit

theorem cmpL_step {s t : List Int} {k : Nat} {x y R : Int} (h : cmpL (s.drop k) (t.drop k) = R) (hp : s[k]? = some x) (hq : t[k]? = some y) : (x < y ∧ R = -1) ∨ (y < x ∧ R = 1) ∨ (x = y ∧ cmpL (s.drop (k + 1)) (t.drop (k + 1)) = R) := by
  obtain ⟨hk, e⟩ := List.getElem?_eq_some_iff.1 hp
  obtain ⟨hk', e'⟩ := List.getElem?_eq_some_iff.1 hq
  rw [List.drop_eq_getElem_cons hk, List.drop_eq_getElem_cons hk', e, e'] at h
  rcases Int.lt_trichotomy x y with g | g | g
  · rw [cmpL_lt _ _ _ _ g] at h; exact .inl ⟨g, h.symm⟩
  · subst g; rw [cmpL_cons] at h; exact .inr (.inr ⟨rfl, h⟩)
  · rw [cmpL_gt _ _ _ _ g] at h; exact .inr (.inl ⟨g, h.symm⟩)
theorem cmpL_end {s t : List Int} {k : Nat} {R : Int} (h : cmpL (s.drop k) (t.drop k) = R) (hk : k ≤ s.length) (hk' : k ≤ t.length) (hp : ¬ (k < s.length ∧ k < t.length)) : R = if s.length < t.length then -1 else if t.length < s.length then 1 else 0 := by
  by_cases g : k < s.length
  · have g' : t.length ≤ k := by omega
    rw [List.drop_of_length_le g', List.drop_eq_getElem_cons g] at h
    rw [if_neg (by omega), if_pos (by omega)]
    exact h.symm
  · rw [List.drop_of_length_le (by omega)] at h
    by_cases g' : k < t.length
    · rw [List.drop_eq_getElem_cons g'] at h
      rw [if_pos (by omega)]
      exact h.symm
    · rw [List.drop_of_length_le (by omega)] at h
      rw [if_neg (by omega), if_neg (by omega)]
      exact h.symm

theorem drew2 (w : World) (a b : Nat) : (w.drewN a).drewN b = w.drewN (a + b) := by rw [World.drewN_drewN]
theorem drew3 (w : World) (a b c : Nat) : ((w.drewN a).drewN b).drewN c = w.drewN (a + b + c) := by rw [World.drewN_drewN, World.drewN_drewN, Nat.add_assoc]
/-- A call that draws and no more, met behind draws. -/
theorem drawn_on {f : FuncId} {args : Array Value} {v : Value} (h : ∀ W : World, Calls Try.prog f args W fun e W' => e = .returned v ∧ ∃ k, W' = W.drewN k) (w : World) (a n : Nat) :
    Calls Try.prog f args (w.drewN (a + n)) fun e W' => e = .returned v ∧ ∃ k, W' = w.drewN (a + k) := by
  refine (h _).mono ?_
  rintro e W' ⟨he, k, rfl⟩
  exact ⟨he, n + k, by rw [drew2, Nat.add_assoc]⟩

set_option maxRecDepth 100000 in
set_option maxHeartbeats 4000000 in
theorem less_any (s t : ByteArray) (w : World) (hs : s.size ≤ 281474976710656) (ht : t.size ≤ 281474976710656) :
    Calls Try.prog 18 #[.string s, .string t] w fun e w' => e = .returned (.int .i64 (cmpL (nums s) (nums t))) ∧ ∃ k, w' = w.drewN k := by
  have HN := Lib.hid (nums_len s)
  have HM := Lib.hid (nums_len t)
  obtain ⟨R, hR⟩ : ∃ R, cmpL (nums s) (nums t) = R := ⟨_, rfl⟩
  have HR : Hid (cmpL ((nums s).drop 0) ((nums t).drop 0) = R) := Lib.hid (by simpa using hR)
  rw [hR]
  clear hR
  go_enter Try.func18, Try.ntmps18
  go_wp2_with fail
  go_loopw [5] (fun t5 wr => ∃ k m : Nat, k ≤ s.size ∧ k ≤ t.size ∧ t5 = .int .i64 k ∧ wr = w.drewN m ∧ Hid (cmpL ((nums s).drop k) ((nums t).drop k) = R)) (fun t5 _ => s.size - (intOf t5).toNat)
  case atStart => exact ⟨0, 0, by omega, by omega, rfl, rfl, HR⟩
  case round =>
    obtain ⟨k, m, hk, hkt, rfl, rfl, hr⟩ := hrel
    by_cases hlt : k < s.size ∧ k < t.size
    · obtain ⟨h1, h2⟩ := hlt
      have HS := Lib.hid (cmpL_step hr.out (nums_get s k h1) (nums_get t k h2))
      obtain ⟨x, hx⟩ : ∃ x : Int, (s[k].toNat : Int) = x := ⟨_, rfl⟩
      obtain ⟨y, hy⟩ : ∃ y : Int, (t[k].toNat : Int) = y := ⟨_, rfl⟩
      rw [hx, hy] at HS
      rcases HS.out with ⟨g, rfl⟩ | ⟨g, rfl⟩ | ⟨rfl, hr2⟩
      · have d1 : decide (x < y) = true := by simpa using g
        clear g HS
        go_upto_region 4 with fail
        go_quiet (fail)
        go_wp2_with fail
        go_ret
        exact ⟨rfl, _, drew2 _ _ _⟩
      · have d1 : decide (x < y) = false := by simp; omega
        have d2 : decide (y < x) = true := by simpa using g
        clear g HS
        go_upto_region 4 with fail
        go_quiet (fail)
        go_upto_region 6 with fail
        go_quiet (fail)
        go_wp2_with fail
        go_ret
        exact ⟨rfl, _, drew3 _ _ _ _⟩
      · have HR2 := Lib.hid hr2
        clear hr2 HS
        go_upto_region 4 with fail
        go_quiet (fail)
        go_upto_region 6 with fail
        go_quiet (fail)
        go_wp2_with fail
        go_roundw
        case rel => exact ⟨k + 1, _, by omega, by omega, by go_num, rfl, HR2⟩
        case measure => simp [intOf]; omega
    · have HE := Lib.hid (cmpL_end hr.out (by have := HN.out; omega) (by have := HM.out; omega) (by rw [HN.out, HM.out]; exact hlt))
      by_cases h1 : k < s.size
      · have h2 : k = t.size := by omega
        have HV : Hid (R = 1) := Lib.hid (by rw [HE.out, HN.out, HM.out, if_neg (by omega), if_pos (by omega)])
        have d1 : ¬ s.size < t.size := by omega
        have d2 : t.size < s.size := by omega
        have d3 : ¬ k < t.size := by omega
        clear hlt h2
        go_wp2_with fail
        go_ret
        exact ⟨ret_int HV.out.symm, _, rfl⟩
      · have h2 : k = s.size := by omega
        subst h2
        by_cases g : s.size < t.size
        · have HV : Hid (R = -1) := Lib.hid (by rw [HE.out, HN.out, HM.out, if_pos g])
          clear hlt h1
          go_wp2_with fail
          go_ret
          exact ⟨ret_int HV.out.symm, _, rfl⟩
        · have HV : Hid (R = 0) := Lib.hid (by rw [HE.out, HN.out, HM.out, if_neg g, if_neg (by omega)])
          have d2 : ¬ t.size < s.size := by omega
          clear hlt h1
          go_wp2_with fail
          go_ret
          exact ⟨ret_int HV.out.symm, _, rfl⟩

theorem cmpI_lt {a b : Int} (h : a < b) : cmpI a b = -1 := by unfold cmpI; rw [if_pos h]
theorem cmpI_gt {a b : Int} (h : b < a) : cmpI a b = 1 := by unfold cmpI; rw [if_neg (by omega), if_pos h]
theorem cmpI_self (a : Int) : cmpI a a = 0 := by unfold cmpI; rw [if_neg (by omega), if_neg (by omega)]
/-- Texts compared. -/
theorem cmpP_tt {p q : Qt} (hp : p.t = true) (hq : q.t = true) : cmpP p.pt q.pt = cmpL (nums p.s) (nums q.s) := by
  unfold cmpP Qt.pt
  simp [hp, hq]
theorem cmpP_nn {p q : Qt} (hp : p.t = false) (hq : q.t = false) : cmpP p.pt q.pt = cmpI p.num q.num := by
  unfold cmpP Qt.pt
  simp [hp, hq]
theorem cmpP_tn {p q : Qt} (hp : p.t = true) (hq : q.t = false) : cmpP p.pt q.pt = 1 := by
  unfold cmpP Qt.pt
  simp [hp, hq]
theorem cmpP_nt {p q : Qt} (hp : p.t = false) (hq : q.t = true) : cmpP p.pt q.pt = -1 := by
  unfold cmpP Qt.pt
  simp [hp, hq]
theorem oa_of {l : List Qt} (h : ∀ q ∈ l, q.Ok) {k : Nat} {q : Qt} (hq : l[k]? = some q) : q.Ok := h q (List.mem_of_getElem? hq)
theorem Pts.drewN {w : World} {A : Option Addr} {l : List Qt} (h : Pts w A l) (k : Nat) : Pts (w.drewN k) A l := h

set_option maxRecDepth 100000 in
set_option maxHeartbeats 8000000 in
theorem refCompare_any (A C : Option Addr) (a b : List Qt) (n m c d : Nat) (w : World) (hn : a.length = n) (hm : b.length = m) (hc : n ≤ 140737488351232) (hd : m ≤ 140737488351232) (ha : Pts w A a) (hb : Pts w C b) (oa : ∀ q ∈ a, q.Ok) (ob : ∀ q ∈ b, q.Ok) :
    Calls Try.prog 17 #[.slice A n c, .slice C m d] w fun e w' => e = .returned (.int .i64 (cmpR (a.map Qt.pt) (b.map Qt.pt))) ∧ ∃ k, w' = w.drewN k := by
  have HA := Lib.hid ha
  have HC := Lib.hid hb
  have HN := Lib.hid hn
  have HM := Lib.hid hm
  have OA := Lib.hid oa
  have OB := Lib.hid ob
  obtain ⟨R, hR⟩ : ∃ R, cmpR (a.map Qt.pt) (b.map Qt.pt) = R := ⟨_, rfl⟩
  have HR : Hid (cmpR ((a.map Qt.pt).drop 0) ((b.map Qt.pt).drop 0) = R) := Lib.hid (by simpa using hR)
  rw [hR]
  clear ha hb hn hm hR oa ob
  go_enter Try.func17, Try.ntmps17
  go_wp2_with fail
  go_loopw [5] (fun t5 wr => ∃ k x : Nat, k ≤ n ∧ k ≤ m ∧ t5 = .int .i64 k ∧ wr = w.drewN x ∧ Hid (cmpR ((a.map Qt.pt).drop k) ((b.map Qt.pt).drop k) = R)) (fun t5 _ => n - (intOf t5).toNat)
  case atStart => exact ⟨0, 0, by omega, by omega, rfl, rfl, HR⟩
  case round =>
    obtain ⟨k, x, hk, hkm, rfl, rfl, hr⟩ := hrel
    by_cases hlt : k < n ∧ k < m
    · obtain ⟨h1, h2⟩ := hlt
      have hp := List.getElem?_eq_getElem (l := a) (i := k) (by have := HN.out; omega)
      generalize a[k]'(by have := HN.out; omega) = p at hp
      obtain ⟨ad, rfl, a0, a1, a2⟩ := HA.out.at_ hp
      have hq := List.getElem?_eq_getElem (l := b) (i := k) (by have := HM.out; omega)
      generalize b[k]'(by have := HM.out; omega) = q at hq
      obtain ⟨bd, rfl, b0, b1, b2⟩ := HC.out.at_ hq
      have HS := Lib.hid (cmpR_step hr.out (pts_get hp) (pts_get hq))
      have HO := Lib.hid (oa_of OA.out hp)
      have HP := Lib.hid (oa_of OB.out hq)
      clear hp hq HR
      cases et : p.t <;> cases eu : q.t
      · rw [cmpP_nn et eu] at HS
        rw [et] at a0
        rw [eu] at b0
        clear et eu a2 b2
        generalize p.num = i at a1 HS
        generalize q.num = j at b1 HS
        rcases Int.lt_trichotomy i j with g | rfl | g
        · rw [cmpI_lt g, if_pos (by omega)] at HS
          have d1 : decide (i < j) = true := by simpa using g
          have HV := Lib.hid HS.out
          clear g HS
          go_upto_region 4 with fail
          go_quiet (fail)
          go_upto_region 11 with fail
          go_quiet (fail)
          go_wp2_with fail
          go_ret
          exact ⟨ret_int HV.out.symm, ⟨_, by first | rfl | exact drew2 _ _ _ | exact drew3 _ _ _ _⟩⟩
        · rw [cmpI_self, if_neg (by omega)] at HS
          have HV := Lib.hid HS.out
          clear HS
          go_upto_region 4 with fail
          go_quiet (fail)
          go_upto_region 11 with fail
          go_quiet (fail)
          go_upto_region 13 with fail
          go_quiet (fail)
          go_wp2_with fail
          go_roundw
          case rel => exact ⟨k + 1, _, by omega, by omega, by go_num, rfl, HV⟩
          case measure => simp [intOf]; omega
        · rw [cmpI_gt g, if_pos (by omega)] at HS
          have d1 : decide (i < j) = false := by simp; omega
          have d2 : decide (j < i) = true := by simpa using g
          have HV := Lib.hid HS.out
          clear g HS
          go_upto_region 4 with fail
          go_quiet (fail)
          go_upto_region 11 with fail
          go_quiet (fail)
          go_upto_region 13 with fail
          go_quiet (fail)
          go_wp2_with fail
          go_ret
          exact ⟨ret_int HV.out.symm, ⟨_, by first | rfl | exact drew2 _ _ _ | exact drew3 _ _ _ _⟩⟩
      · rw [cmpP_nt et eu, if_pos (by omega)] at HS
        rw [et] at a0
        rw [eu] at b0
        go_upto_region 4 with fail
        go_quiet (fail)
        go_wp2_with fail
        go_ret
        exact ⟨ret_int HS.out.symm, ⟨_, by first | rfl | exact drew2 _ _ _ | exact drew3 _ _ _ _⟩⟩
      · rw [cmpP_tn et eu, if_pos (by omega)] at HS
        rw [et] at a0
        rw [eu] at b0
        go_upto_region 4 with fail
        go_quiet (fail)
        go_wp2_with fail
        go_ret
        exact ⟨ret_int HS.out.symm, ⟨_, by first | rfl | exact drew2 _ _ _ | exact drew3 _ _ _ _⟩⟩
      · rw [cmpP_tt et eu] at HS
        rw [et] at a0
        rw [eu] at b0
        clear et eu a1 b1
        have HL := Lib.hid (fun w => less_any p.s q.s w (by have := HO.out.size; omega) (by have := HP.out.size; omega))
        have h3 := cmpL_three (nums p.s) (nums q.s)
        generalize cmpL (nums p.s) (nums q.s) = z at HS HL h3
        by_cases hz : z = 0
        · subst hz
          rw [if_neg (by simp)] at HS
          clear h3
          go_upto_region 4 with fail
          go_quiet (fail)
          go_upto_region 10 with fail
          go_quiet ((go_at_call 18; first | exact drawn_on HL.out _ _ _ | exact Calls.quiet_of (HL.out _)))
          go_wp2_with fail
          go_roundw
          case rel => exact ⟨k + 1, _, by omega, by omega, by go_num, rfl, HS⟩
          case measure => simp [intOf]; omega
        · rw [if_pos hz] at HS
          have hz' : (z != 0) = true := by simpa using hz
          clear h3 hz
          go_upto_region 4 with fail
          go_quiet (fail)
          go_upto_region 10 with fail
          go_quiet ((go_at_call 18; first | exact drawn_on HL.out _ _ _ | exact Calls.quiet_of (HL.out _)))
          go_wp2_with fail
          go_ret
          exact ⟨ret_int HS.out.symm, ⟨_, by first | rfl | exact drew2 _ _ _ | exact drew3 _ _ _ _⟩⟩
    · clear HA HC HR
      by_cases h1 : k < n
      · obtain rfl : k = m := by omega
        have HV := Lib.hid (cmpR_long hr.out (by have := HN.out; simp; omega) (by have := HM.out; simp; omega))
        have d1 : ¬ n < k := by omega
        clear hlt
        go_wp2_with fail
        go_ret
        exact ⟨ret_int HV.out.symm, ⟨_, by first | rfl | exact drew2 _ _ _ | exact drew3 _ _ _ _⟩⟩
      · obtain rfl : k = n := by omega
        have HW := Lib.hid (cmpR_end hr.out (by have := HN.out; simp; omega))
        by_cases hnm : k < m
        · have HV : Hid (R = -1) := Lib.hid (by rw [HW.out, if_pos (by have := HM.out; simp; omega)])
          clear hlt h1
          go_wp2_with fail
          go_ret
          exact ⟨ret_int HV.out.symm, ⟨_, by first | rfl | exact drew2 _ _ _ | exact drew3 _ _ _ _⟩⟩
        · have HV : Hid (R = 0) := Lib.hid (by rw [HW.out, if_neg (by have := HM.out; simp; omega)])
          have d2 : ¬ m < k := by omega
          clear hlt h1
          go_wp2_with fail
          go_ret
          exact ⟨ret_int HV.out.symm, ⟨_, by first | rfl | exact drew2 _ _ _ | exact drew3 _ _ _ _⟩⟩

end Go.Proofs.Ytaedhedbmbmdoaa
