/-
  Walks: are pairs alike, by the document.
-/
import Derived.Test.YtimonpoeieenpaaKBc
namespace Go.Proofs.Ytimonpoeieenpaa
open Go.RowKit

theorem conv_drew {w : World} {A : Option Addr} {L : List Int} (h : Bys w A L) (n c : Nat) (hn : L.length = n) : ∀ k, (convert 24 9 (.slice A n c)).run Try.prog (w.drewN k) = .ok (.string (strOfNums L)) (w.drewN k) := fun k => conv_any (h.kept (below_drewN (Below.refl _ w) k)) n c hn
theorem rd_differ {l l' : List Bp} {k : Nat} {x y : Bp} (hx : (rds l)[k]? = some x.rd) (hy : (rds l')[k]? = some y.rd) (h : x.rd ≠ y.rd) : decide (rds l = rds l') = false := by
  simp only [decide_eq_false_iff_not]
  intro e
  rw [e, hy] at hx
  exact h (Option.some.inj hx).symm
theorem rd_same {l l' : List Bp} {k : Nat} {x y : Bp} (hx : (rds l)[k]? = some x.rd) (hy : (rds l')[k]? = some y.rd) (h : x.rd = y.rd) (hr : (rds l).take k = (rds l').take k) : (rds l).take (k + 1) = (rds l').take (k + 1) := by
  rw [List.take_add_one, List.take_add_one, hx, hy, hr, h]

set_option maxRecDepth 100000 in
set_option maxHeartbeats 4000000 in
theorem refSame_any (A A' : Option Addr) (l l' : List Bp) (n n' c c' : Nat) (w : World) (hn : l.length = n) (hn' : l'.length = n') (h : Lies w A (pvals l)) (h' : Lies w A' (pvals l')) (hi : Ins w l) (hi' : Ins w l') (hl : n * 48 ≤ 140737488351232) (hl' : n' * 48 ≤ 140737488351232) :
    Calls Try.prog 16 #[.slice A n c, .slice A' n' c'] w fun e w' => e = .returned (.bool (decide (rds l = rds l'))) ∧ ∃ k, w' = w.drewN k := by
  obtain ⟨b, hb⟩ : ∃ b, decide (rds l = rds l') = b := ⟨_, rfl⟩
  rw [hb]
  have HB := Lib.hid hb
  have HP := Lib.hid (And.intro h h')
  have HI := Lib.hid (And.intro hi hi')
  have HN := Lib.hid (And.intro hn hn')
  clear h h' hi hi' hb hn hn'
  by_cases hnn : n = n'
  · subst hnn
    go_enter Try.func16, Try.ntmps16
    go_wp2_with fail
    go_loopw [13] (fun t13 wr => ∃ k x : Nat, k ≤ n ∧ t13 = .int .i64 k ∧ wr = w.drewN x ∧ Hid ((rds l).take k = (rds l').take k)) (fun t13 _ => n - (intOf t13).toNat)
    case atStart => exact ⟨0, 0, by omega, rfl, rfl, Lib.hid rfl⟩
    case round =>
      obtain ⟨k, dr, hk, rfl, rfl, hr⟩ := hrel
      by_cases hlt : k < n
      · have hq := List.getElem?_eq_getElem (l := l) (i := k) (by have := HN.out.1; omega)
        generalize l[k]'(by have := HN.out.1; omega) = x at hq
        have hq' := List.getElem?_eq_getElem (l := l') (i := k) (by have := HN.out.2; omega)
        generalize l'[k]'(by have := HN.out.2; omega) = y at hq'
        obtain ⟨ad, rfl, a0, a1⟩ := lies_pair HP.out.1 hq
        obtain ⟨ad', rfl, b0, b1⟩ := lies_pair HP.out.2 hq'
        obtain ⟨X1, X2⟩ := HI.out.1 x (List.mem_of_getElem? hq)
        obtain ⟨Y1, Y2⟩ := HI.out.2 y (List.mem_of_getElem? hq')
        have HQ := Lib.hid (And.intro (rds_get hq) (rds_get hq'))
        clear hq hq'
        obtain ⟨⟨xka, xkc, xk⟩, ⟨xva, xvc, xv⟩⟩ := x
        obtain ⟨⟨yka, ykc, yk⟩, ⟨yva, yvc, yv⟩⟩ := y
        simp only at a0 a1 b0 b1 X1 X2 Y1 Y2
        have C0 := conv_drew X1.bys xk.length xkc rfl
        have C1 := conv_drew Y1.bys yk.length ykc rfl
        have C2 := conv_drew X2.bys xv.length xvc rfl
        have C3 := conv_drew Y2.bys yv.length yvc rfl
        have HS := Lib.hid (str_of_inj X1.byt Y1.byt)
        have HT := Lib.hid (str_of_inj X2.byt Y2.byt)
        clear X1 X2 Y1 Y2
        obtain ⟨m, hm⟩ : ∃ m, xk.length = m := ⟨_, rfl⟩
        obtain ⟨m', hm'⟩ : ∃ m, yk.length = m := ⟨_, rfl⟩
        obtain ⟨z, hz⟩ : ∃ m, xv.length = m := ⟨_, rfl⟩
        obtain ⟨z', hz'⟩ : ∃ m, yv.length = m := ⟨_, rfl⟩
        rw [hm] at a0 C0
        rw [hm'] at b0 C1
        rw [hz] at a1 C2
        rw [hz'] at b1 C3
        clear hm hm' hz hz'
        by_cases e1 : xk = yk
        · subst e1
          by_cases e2 : xv = yv
          · subst e2
            have HR := Lib.hid (rd_same HQ.out.1 HQ.out.2 rfl hr.out)
            go_upto_region 6 with fail
            go_quiet (fail)
            go_wp2_with fail
            go_roundw
            case rel => exact ⟨k + 1, _, by omega, by go_num, rfl, HR⟩
            case measure => simp [intOf]; omega
          · have d2 : ((strOfNums xv).toList == (strOfNums yv).toList) = false := toList_ne (fun e => e2 (HT.out.1 e))
            have HV : Hid (b = false) := Lib.hid (by rw [← HB.out]; exact rd_differ HQ.out.1 HQ.out.2 (fun e => e2 (congrArg (fun p => p.2) e)))
            clear e2
            go_upto_region 6 with fail
            go_quiet (fail)
            go_wp2_with fail
            go_ret
            rw [HV.out]
            exact ⟨rfl, _, by first | rfl | exact drew2 _ _ _⟩
        · have d1 : ((strOfNums xk).toList == (strOfNums yk).toList) = false := toList_ne (fun e => e1 (HS.out.1 e))
          have HV : Hid (b = false) := Lib.hid (by rw [← HB.out]; exact rd_differ HQ.out.1 HQ.out.2 (fun e => e1 (congrArg (fun p => p.1) e)))
          clear e1
          go_upto_region 6 with fail
          go_quiet (fail)
          go_wp2_with fail
          go_ret
          rw [HV.out]
          exact ⟨rfl, _, by first | rfl | exact drew2 _ _ _⟩
      · obtain rfl : k = n := by omega
        have hr' := hr.out
        rw [List.take_of_length_le (by rw [rds_len]; have := HN.out.1; omega), List.take_of_length_le (by rw [rds_len]; have := HN.out.2; omega)] at hr'
        have HV : Hid (b = true) := Lib.hid (by rw [← HB.out]; simpa using hr')
        clear hr' hr
        go_wp2_with fail
        go_ret
        rw [HV.out]
        exact ⟨rfl, _, rfl⟩
  · have d0 : ((n : Int) != n') = true := by simp; omega
    have HV : Hid (b = false) := Lib.hid (by rw [← HB.out]; simp; intro e; have := congrArg List.length e; rw [rds_len, rds_len] at this; have := HN.out; omega)
    go_enter Try.func16, Try.ntmps16
    go_wp2_with fail
    go_ret
    rw [HV.out]
    exact ⟨rfl, 0, rfl⟩

end Go.Proofs.Ytimonpoeieenpaa
