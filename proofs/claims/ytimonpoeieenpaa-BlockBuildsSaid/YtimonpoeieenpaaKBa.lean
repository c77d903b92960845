/-
  Walks: how many bytes two begin alike, by the program and by the document; bytes compared.
-/
import Derived.Test.YtimonpoeieenpaaKMemP
import Derived.Test.YtimonpoeieenpaaKVd
import Derived.Deep.QuietTactic
import Derived.BigQuiet
import Derived.Lib.BytesEntry
import Derived.Lib.Bytealg
import Derived.Lib.BufferMore
namespace Go.Proofs.Ytimonpoeieenpaa
open Go.RowKit

theorem cmpL_step {s t : List Int} {k : Nat} {x y R : Int} (h : cmpL (s.drop k) (t.drop k) = R) (hp : s[k]? = some x) (hq : t[k]? = some y) : (x < y ∧ R = -1) ∨ (y < x ∧ R = 1) ∨ (x = y ∧ cmpL (s.drop (k + 1)) (t.drop (k + 1)) = R) := by
  obtain ⟨hk, e⟩ := List.getElem?_eq_some_iff.1 hp
  obtain ⟨hk', e'⟩ := List.getElem?_eq_some_iff.1 hq
  rw [List.drop_eq_getElem_cons hk, List.drop_eq_getElem_cons hk', e, e'] at h
  rcases Int.lt_trichotomy x y with g | g | g
  · rw [cmpL_lt _ _ _ _ g] at h; exact .inl ⟨g, h.symm⟩
  · subst g; rw [cmpL_cons] at h; exact .inr (.inr ⟨rfl, h⟩)
  · rw [cmpL_gt _ _ _ _ g] at h; exact .inr (.inl ⟨g, h.symm⟩)
theorem cmpL_end {s t : List Int} {k : Nat} {R : Int} (h : cmpL (s.drop k) (t.drop k) = R) (hk : k ≤ s.length) (hk' : k ≤ t.length) (hp : ¬ (k < s.length ∧ k < t.length)) : R = if s.length < t.length then -1 else if t.length < s.length then 1 else 0 := by
  by_cases g : k < s.length
  · have g' : t.length ≤ k := by omega
    rw [List.drop_of_length_le g', List.drop_eq_getElem_cons g] at h
    rw [if_neg (by omega), if_pos (by omega)]
    exact h.symm
  · rw [List.drop_of_length_le (by omega)] at h
    by_cases g' : k < t.length
    · rw [List.drop_eq_getElem_cons g'] at h
      rw [if_pos (by omega)]
      exact h.symm
    · rw [List.drop_of_length_le (by omega)] at h
      rw [if_neg (by omega), if_neg (by omega)]
      exact h.symm

theorem drew2 (w : World) (a b : Nat) : (w.drewN a).drewN b = w.drewN (a + b) := by rw [World.drewN_drewN]
theorem drew3 (w : World) (a b c : Nat) : ((w.drewN a).drewN b).drewN c = w.drewN (a + b + c) := by rw [World.drewN_drewN, World.drewN_drewN, Nat.add_assoc]
/-- A call that draws and no more, met behind draws. -/
theorem drawn_on {f : FuncId} {args : Array Value} {v : Value} (h : ∀ W : World, Calls Try.prog f args W fun e W' => e = .returned v ∧ ∃ k, W' = W.drewN k) (w : World) (a n : Nat) :
    Calls Try.prog f args (w.drewN (a + n)) fun e W' => e = .returned v ∧ ∃ k, W' = w.drewN (a + k) := by
  refine (h _).mono ?_
  rintro e W' ⟨he, k, rfl⟩
  exact ⟨he, n + k, by rw [drew2, Nat.add_assoc]⟩

set_option maxRecDepth 100000 in
set_option maxHeartbeats 4000000 in
theorem less_any (s t : ByteArray) (w : World) (hs : s.size ≤ 281474976710656) (ht : t.size ≤ 281474976710656) :
    Calls Try.prog 22 #[.string s, .string t] w fun e w' => e = .returned (.int .i64 (cmpL (nums s) (nums t))) ∧ ∃ k, w' = w.drewN k := by
  have HN := Lib.hid (nums_len s)
  have HM := Lib.hid (nums_len t)
  obtain ⟨R, hR⟩ : ∃ R, cmpL (nums s) (nums t) = R := ⟨_, rfl⟩
  have HR : Hid (cmpL ((nums s).drop 0) ((nums t).drop 0) = R) := Lib.hid (by simpa using hR)
  rw [hR]
  clear hR
  go_enter Try.func22, Try.ntmps22
  go_wp2_with fail
  go_loopw [5] (fun t5 wr => ∃ k m : Nat, k ≤ s.size ∧ k ≤ t.size ∧ t5 = .int .i64 k ∧ wr = w.drewN m ∧ Hid (cmpL ((nums s).drop k) ((nums t).drop k) = R)) (fun t5 _ => s.size - (intOf t5).toNat)
  case atStart => exact ⟨0, 0, by omega, by omega, rfl, rfl, HR⟩
  case round =>
    obtain ⟨k, m, hk, hkt, rfl, rfl, hr⟩ := hrel
    by_cases hlt : k < s.size ∧ k < t.size
    · obtain ⟨h1, h2⟩ := hlt
      have HS := Lib.hid (cmpL_step hr.out (nums_get s k h1) (nums_get t k h2))
      obtain ⟨x, hx⟩ : ∃ x : Int, (s[k].toNat : Int) = x := ⟨_, rfl⟩
      obtain ⟨y, hy⟩ : ∃ y : Int, (t[k].toNat : Int) = y := ⟨_, rfl⟩
      rw [hx, hy] at HS
      rcases HS.out with ⟨g, rfl⟩ | ⟨g, rfl⟩ | ⟨rfl, hr2⟩
      · have d1 : decide (x < y) = true := by simpa using g
        clear g HS
        go_upto_region 4 with fail
        go_quiet (fail)
        go_wp2_with fail
        go_ret
        exact ⟨rfl, _, drew2 _ _ _⟩
      · have d1 : decide (x < y) = false := by simp; omega
        have d2 : decide (y < x) = true := by simpa using g
        clear g HS
        go_upto_region 4 with fail
        go_quiet (fail)
        go_upto_region 6 with fail
        go_quiet (fail)
        go_wp2_with fail
        go_ret
        exact ⟨rfl, _, drew3 _ _ _ _⟩
      · have HR2 := Lib.hid hr2
        clear hr2 HS
        go_upto_region 4 with fail
        go_quiet (fail)
        go_upto_region 6 with fail
        go_quiet (fail)
        go_wp2_with fail
        go_roundw
        case rel => exact ⟨k + 1, _, by omega, by omega, by go_num, rfl, HR2⟩
        case measure => simp [intOf]; omega
    · have HE := Lib.hid (cmpL_end hr.out (by have := HN.out; omega) (by have := HM.out; omega) (by rw [HN.out, HM.out]; exact hlt))
      by_cases h1 : k < s.size
      · have h2 : k = t.size := by omega
        have HV : Hid (R = 1) := Lib.hid (by rw [HE.out, HN.out, HM.out, if_neg (by omega), if_pos (by omega)])
        have d1 : ¬ s.size < t.size := by omega
        have d2 : t.size < s.size := by omega
        have d3 : ¬ k < t.size := by omega
        clear hlt h2
        go_wp2_with fail
        go_ret
        exact ⟨ret_int HV.out.symm, _, rfl⟩
      · have h2 : k = s.size := by omega
        subst h2
        by_cases g : s.size < t.size
        · have HV : Hid (R = -1) := Lib.hid (by rw [HE.out, HN.out, HM.out, if_pos g])
          clear hlt h1
          go_wp2_with fail
          go_ret
          exact ⟨ret_int HV.out.symm, _, rfl⟩
        · have HV : Hid (R = 0) := Lib.hid (by rw [HE.out, HN.out, HM.out, if_neg g, if_neg (by omega)])
          have d2 : ¬ t.size < s.size := by omega
          clear hlt h1
          go_wp2_with fail
          go_ret
          exact ⟨ret_int HV.out.symm, _, rfl⟩


theorem alike_zero (s t : List Int) : alike s t = 0 + alike (s.drop 0) (t.drop 0) := by simp

set_option maxRecDepth 100000 in
set_option maxHeartbeats 4000000 in
theorem alike_any (A C : Option Addr) (L M : List Int) (n m c d : Nat) (w : World) (h : In w A L n c) (g : In w C M m d) :
    Calls Try.prog 29 #[.slice A n c, .slice C m d] w fun e w' => e = .returned (.int .i64 (alike L M : Nat)) ∧ ∃ k, w' = w.drewN k := by
  have HI := Lib.hid h
  have HJ := Lib.hid g
  have hn : (n : Int) ≤ 9223372036854775807 := by have := h.cap; have := h.top; omega
  have hm : (m : Int) ≤ 9223372036854775807 := by have := g.cap; have := g.top; omega
  obtain ⟨R, hR⟩ : ∃ R, alike L M = R := ⟨_, rfl⟩
  have HR : Hid (R = 0 + alike (L.drop 0) (M.drop 0)) := Lib.hid (by rw [← hR]; exact alike_zero L M)
  have HE := Lib.hid hR
  rw [hR]
  clear h g hR
  go_enter Try.func29, Try.ntmps29
  go_wp2_with fail
  go_loopw [5] (fun t5 wr => ∃ k x : Nat, k ≤ n ∧ k ≤ m ∧ t5 = .int .i64 k ∧ wr = w.drewN x ∧ Hid (R = k + alike (L.drop k) (M.drop k))) (fun t5 _ => n - (intOf t5).toNat)
  case atStart => exact ⟨0, 0, by omega, by omega, rfl, rfl, HR⟩
  case round =>
    obtain ⟨k, x, hk, hkm, rfl, rfl, hr⟩ := hrel
    by_cases h1 : k < n
    · by_cases h2 : k < m
      · have hx := List.getElem?_eq_getElem (l := L) (i := k) (by have := HI.out.len; omega)
        generalize L[k]'(by have := HI.out.len; omega) = a at hx
        have hy := List.getElem?_eq_getElem (l := M) (i := k) (by have := HJ.out.len; omega)
        generalize M[k]'(by have := HJ.out.len; omega) = b at hy
        obtain ⟨ad, rfl, c1⟩ := in_at HI.out hx
        obtain ⟨bd, rfl, c2⟩ := in_at HJ.out hy
        have HS := Lib.hid (alike_step (HE.out.trans hr.out) hx hy)
        have i1 : (k : Int) < n := by omega
        have i2 : (k : Int) < m := by omega
        clear hx hy HR
        rcases HS.out with ⟨e1, e2⟩ | ⟨e1, e2⟩
        · have d1 : (a == b) = false := by simpa using e1
          have HV := Lib.hid (HE.out.symm.trans e2)
          clear e1 e2 HS
          go_upto_region 2 with fail
          go_quiet (fail)
          go_wp2_with fail
          go_ret
          exact ⟨ret_int (by rw [HV.out]), _, drew2 _ _ _⟩
        · subst e1
          have HV := Lib.hid (HE.out.symm.trans e2)
          clear e2 HS
          go_upto_region 2 with fail
          go_quiet (fail)
          go_wp2_with fail
          go_roundw
          case rel => exact ⟨k + 1, _, by omega, by omega, by go_num, rfl, HV⟩
          case measure => simp [intOf]; omega
      · obtain rfl : k = m := by omega
        have HV := Lib.hid (HE.out.symm.trans (alike_end (HE.out.trans hr.out) (.inr (by have := HJ.out.len; omega))))
        have i1 : (k : Int) < n := by omega
        clear HR h2
        go_upto_region 2 with fail
        go_quiet (fail)
        go_wp2_with fail
        go_ret
        exact ⟨ret_int (by rw [HV.out]), _, drew2 _ _ _⟩
    · obtain rfl : k = n := by omega
      have HV := Lib.hid (HE.out.symm.trans (alike_end (HE.out.trans hr.out) (.inl (by have := HI.out.len; omega))))
      clear HR h1
      go_upto_region 2 with fail
      go_quiet (fail)
      go_wp2_with fail
      go_ret
      exact ⟨ret_int (by rw [HV.out]), _, drew2 _ _ _⟩

set_option maxRecDepth 100000 in
set_option maxHeartbeats 4000000 in
theorem shared_any (s t : ByteArray) (w : World) (hs : s.size ≤ 281474976710656) (ht : t.size ≤ 281474976710656) :
    Calls Try.prog 23 #[.string s, .string t] w fun e w' => e = .returned (.int .i64 (alike (nums s) (nums t) : Nat)) ∧ ∃ k, w' = w.drewN k := by
  have HN := Lib.hid (nums_len s)
  have HM := Lib.hid (nums_len t)
  obtain ⟨R, hR⟩ : ∃ R, alike (nums s) (nums t) = R := ⟨_, rfl⟩
  have HR : Hid (R = 0 + alike ((nums s).drop 0) ((nums t).drop 0)) := Lib.hid (by rw [← hR]; exact alike_zero _ _)
  have HE := Lib.hid hR
  rw [hR]
  clear hR
  go_enter Try.func23, Try.ntmps23
  go_wp2_with fail
  go_loopw [5] (fun t5 wr => ∃ k x : Nat, k ≤ s.size ∧ k ≤ t.size ∧ t5 = .int .i64 k ∧ wr = w.drewN x ∧ Hid (R = k + alike ((nums s).drop k) ((nums t).drop k))) (fun t5 _ => s.size - (intOf t5).toNat)
  case atStart => exact ⟨0, 0, by omega, by omega, rfl, rfl, HR⟩
  case round =>
    obtain ⟨k, x, hk, hkm, rfl, rfl, hr⟩ := hrel
    by_cases h1 : k < s.size
    · by_cases h2 : k < t.size
      · have HS := Lib.hid (alike_step (HE.out.trans hr.out) (nums_get s k h1) (nums_get t k h2))
        obtain ⟨a, ha⟩ : ∃ a : Int, (s[k].toNat : Int) = a := ⟨_, rfl⟩
        obtain ⟨b, hb⟩ : ∃ b : Int, (t[k].toNat : Int) = b := ⟨_, rfl⟩
        rw [ha, hb] at HS
        clear HR
        rcases HS.out with ⟨e1, e2⟩ | ⟨e1, e2⟩
        · have d1 : (a == b) = false := by simpa using e1
          have HV := Lib.hid (HE.out.symm.trans e2)
          clear e1 e2 HS
          go_upto_region 2 with fail
          go_quiet (fail)
          go_wp2_with fail
          go_ret
          exact ⟨ret_int (by rw [HV.out]), _, drew2 _ _ _⟩
        · have d1 : (a == b) = true := by simpa using e1
          have HV := Lib.hid (HE.out.symm.trans e2)
          clear e1 e2 HS
          go_upto_region 2 with fail
          go_quiet (fail)
          go_wp2_with fail
          go_roundw
          case rel => exact ⟨k + 1, _, by omega, by omega, by go_num, rfl, HV⟩
          case measure => simp [intOf]; omega
      · obtain rfl : k = t.size := by omega
        have HV := Lib.hid (HE.out.symm.trans (alike_end (HE.out.trans hr.out) (.inr (by have := HM.out; omega))))
        clear HR h2
        go_upto_region 2 with fail
        go_quiet (fail)
        go_wp2_with fail
        go_ret
        exact ⟨ret_int (by rw [HV.out]), _, drew2 _ _ _⟩
    · obtain rfl : k = s.size := by omega
      have HV := Lib.hid (HE.out.symm.trans (alike_end (HE.out.trans hr.out) (.inl (by have := HN.out; omega))))
      clear HR h1
      go_upto_region 2 with fail
      go_quiet (fail)
      go_wp2_with fail
      go_ret
      exact ⟨ret_int (by rw [HV.out]), _, drew2 _ _ _⟩

end Go.Proofs.Ytimonpoeieenpaa
