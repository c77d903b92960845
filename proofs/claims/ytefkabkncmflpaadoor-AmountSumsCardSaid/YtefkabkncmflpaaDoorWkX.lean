/-
  Walks: two stretches are merged: the second of one number.
-/
import Derived.Test.YtefkabkncmflpaaDoorWkQ
namespace Go.Proofs.YtefkabkncmflpaaDoor
open Go.RowKit Go.Sort Go.Shelf

variable {m : Nat}

theorem Turned.dn {d dk : Array (Pl m)} {q y : Nat} (h : Turned d dk (y + 1) q (q + 1)) (hx : q < d.size) (ha : y < q) : Turned d (swp dk (y + 1) y) y q (q + 1) := by
  refine ⟨by rw [size_swp]; exact h.1, fun k => ?_⟩
  rw [get_swp dk (y + 1) y k (by rw [h.1]; omega) (by rw [h.1]; omega), h.2, h.2, h.2]
  unfold rot
  by_cases e1 : k = y
  · subst e1
    rw [if_pos rfl, if_pos (by omega), if_pos (by omega), if_pos (by omega), if_pos (by omega)]
    exact congrArg (fun t => d[t]!) (by omega)
  · rw [if_neg e1]
    by_cases e2 : k = y + 1
    · subst e2
      rw [if_pos rfl, if_neg (by omega), if_pos (by omega), if_neg (by omega)]
      exact congrArg (fun t => d[t]!) (by omega)
    · rw [if_neg e2]
      by_cases e3 : y + 1 ≤ k ∧ k < q + 1
      · rw [if_pos e3, if_neg (by omega), if_pos (by omega), if_neg (by omega)]
      · rw [if_neg e3, if_neg (by omega)]

set_option maxRecDepth 100000 in
set_option maxHeartbeats 4000000 in
theorem sym_right (r : Pl m → Int) (cf : Pl m → Pl m → Int) (hcf : ∀ x y, ltOf cf x y = decide (r y < r x)) (g : Nat) (cb : Array Value) (blk cap M a q k0 : Nat) (hM : m + 1 = M) (hm : M ≤ 1024) (d0 d : Array (Pl m)) (w : World)
    (eg : ∀ args w, (callFunc g args).run Tryd.prog w = .ok (.enter g args) w) (hcmp : CmpReads Tryd.prog g cb encP cf blk 0 M w) (hH : Holds encP w blk 0 d0) (h0 : d0.size = M) (hs : d.size = M) (h2 : a + 1 < q) (h3 : q + 1 ≤ M) (tw : Two r d a q (q + 1)) :
    Calls Tryd.prog 81 #[.slice (some ⟨blk, 0, none⟩) M cap, .int .i64 a, .int .i64 q, .int .i64 ((q : Int) + 1), .func (.func g) #[] cb] ((putRow encP w blk 0 d).drewN k0) (Merged r w blk d a (q + 1)) := by
  have hcAt : ∀ (X : Array (Pl m)) (x y : Pl m), X.size = M → ∀ k n, Calls Tryd.prog g (#[encP x, encP y] ++ cb) (((putRow encP w blk 0 X).drewN k).drewN n) fun e w' => e = .returned (.int .i64 (cf x y)) ∧ ∃ q, w' = (((putRow encP w blk 0 X).drewN k).drewN n).drewN q := fun X x y hX k n => by
    have := hcmp (k + n) #[] X hX x y
    rw [sortWorld_none, ← World.drewN_drewN] at this
    exact this
  have HC := Lib.hid hcAt
  have HCF := Lib.hid hcf
  have HH := Lib.hid hH
  have H0 := Lib.hid h0
  have HS := Lib.hid hs
  have HM := Lib.hid hM
  have TW := Lib.hid tw
  clear hcAt hcmp hcf hH h0 hs hM tw
  have c1 : ((q : Int) - (a : Int) == 1) = false := by simp; omega
  have c2 : ((q : Int) + 1 - (q : Int) == 1) = true := by simp; omega
  have M1 : (M : Int) ≤ 1024 := by omega
  have b1 : (q : Int) + 1 ≤ M := by omega
  have ab : (a : Int) + 1 < q := by omega
  go_enter Tryd.func81, Tryd.ntmps81
  go_wp2_with fail
  go_loopw [14, 15] (fun t14 t15 wr => ∃ (i j k : Nat), a ≤ i ∧ i ≤ j ∧ j ≤ q ∧ t14 = .int .i64 i ∧ t15 = .int .i64 j ∧ wr = (putRow encP w blk 0 d).drewN k ∧ Hid (∀ x, a ≤ x → x < i → tl r d[x]! d[q]!) ∧ Hid (∀ x, j ≤ x → x < q → tl r d[q]! d[x]!)) (fun t14 t15 _ => (intOf t15).toNat - (intOf t14).toNat)
  case atStart => exact ⟨a, q, k0, by omega, by omega, by omega, rfl, rfl, rfl, Lib.hid (fun x _ _ => absurd (show x < x by omega) (by omega)), Lib.hid (fun x _ _ => absurd (show x < x by omega) (by omega))⟩
  case round =>
    obtain ⟨i, j, k, i1, ij, jb, rfl, rfl, hwr, hlo, hhi⟩ := hrel
    by_cases hlt : i < j
    · have hlti : (i : Int) < j := by omega
      obtain ⟨h, hh⟩ : ∃ h, (i + j) / 2 = h := ⟨_, rfl⟩
      have HHH := Lib.hid hh
      have e1 : ((i : Int) + j) / 2 = h := by omega
      have i0 : (i : Int) ≤ 1024 := by omega
      have j0 : (j : Int) ≤ 1024 := by omega
      have hM' : h < M := by omega
      have hMi : (h : Int) < M := by omega
      have aMi : (q : Int) < M := by omega
      have HJ := holds_putRow encP w blk 0 d0 d HH.out (by rw [HS.out, H0.out])
      obtain ⟨ch, fh⟩ := HJ h (by rw [HS.out]; omega)
      obtain ⟨ca, fa⟩ := HJ q (by rw [HS.out]; omega)
      rw [Nat.zero_add] at ch ca
      have ch' : wr.cell? ⟨blk, h, none⟩ = some (encP d[h]!) := by rw [hwr]; exact ch
      have ca' : wr.cell? ⟨blk, q, none⟩ = some (encP d[q]!) := by rw [hwr]; exact ca
      obtain ⟨x, hx⟩ : ∃ x, d[h]! = x := ⟨_, rfl⟩
      obtain ⟨y, hy⟩ : ∃ y, d[q]! = y := ⟨_, rfl⟩
      have HX := Lib.hid (And.intro hx hy)
      have hc := HC.out d y x HS.out k
      rw [← hwr] at hc
      rw [hx] at ch'
      rw [hy] at ca'
      unfold encP at ch' ca'
      have HW := Lib.hid hwr
      clear HJ ch fh ca fa hx hy hwr hh
      have T := Lib.hid (TW.out.test h q (by omega) (by omega) (by omega) (by omega))
      have L := Lib.hid (HCF.out d[q]! d[h]!)
      by_cases hl : cf y x < 0
      · have HI : Hid (∀ z, h ≤ z → z < q → tl r d[q]! d[z]!) := Lib.hid (fun z z1 z2 => by
          have t := T.out.1 (by have := L.out; rw [HX.out.1, HX.out.2] at this ⊢; unfold ltOf at this; exact of_decide_eq_true (this.symm.trans (decide_eq_true hl)))
          exact TW.out.lo.upw t (by omega) z1 z2)
        go_wp2_with fail
        go_quiet ((go_at_fn g; refine Calls.quiet_of (hc _)))
        go_wp2_with fail
        go_roundw
        case rel => exact ⟨i, h, k + nq, i1, by omega, by omega, rfl, rfl, by rw [HW.out, World.drewN_drewN], hlo, HI⟩
        case measure => have := HHH.out; simp [intOf]; omega
      · have LO : Hid (∀ z, a ≤ z → z < h + 1 → tl r d[z]! d[q]!) := Lib.hid (fun z z1 z2 => by
          have t := T.out.2 (by have := L.out; rw [HX.out.1, HX.out.2] at this ⊢; unfold ltOf at this; exact of_decide_eq_false (this.symm.trans (decide_eq_false hl)))
          exact TW.out.lo.down t z1 (by omega) (by omega))
        have hl2 : (!decide (cf y x < 0)) = true := by rw [decide_eq_false hl]; rfl
        clear hl
        go_wp2_with fail
        go_quiet ((go_at_fn g; refine Calls.quiet_of (hc _)))
        go_wp2_with fail
        go_roundw
        case rel => exact ⟨h + 1, j, k + nq, by omega, by omega, jb, by go_num, rfl, by rw [HW.out, World.drewN_drewN], LO, hhi⟩
        case measure => have := HHH.out; simp [intOf]; omega
    · obtain rfl : i = j := by omega
      have CU : Hid (Cuts r d a q (q + 1) i (q + 1)) := Lib.hid ⟨i1, jb, by omega, by omega, fun x y x1 x2 y1 y2 => by omega, fun x y x1 x2 y1 y2 => by
        obtain rfl : y = q := by omega
        exact hhi.out x x1 x2⟩
      have HLO := Lib.hid hlo.out
      have HW := Lib.hid hwr
      clear hlo hhi hwr
      have iz : (i : Int) ≤ q := by omega
      go_wp2_with fail
      go_loopw [17] (fun t17 wx => ∃ (x kx : Nat) (dk : Array (Pl m)), i ≤ x ∧ x ≤ q ∧ t17 = .int .i64 x ∧ wx = (putRow encP w blk 0 dk).drewN kx ∧ Hid (Turned d dk x q (q + 1))) (fun t17 _ => (intOf t17).toNat - i)
      case atStart => exact ⟨q, k, d, jb, Nat.le_refl _, rfl, HW.out, Lib.hid (Turned.left d q (q + 1))⟩
      case round =>
        obtain ⟨x, kx, dk, ix, xq, rfl, hwx, htx⟩ := hrel
        have HWx := Lib.hid hwx
        have sk : Hid (dk.size = M) := Lib.hid (by rw [htx.out.1]; exact HS.out)
        by_cases hx : i < x
        · obtain ⟨y, rfl⟩ : ∃ y, x = y + 1 := ⟨x - 1, by omega⟩
          have HJ := holds_putRow encP w blk 0 d0 dk HH.out (by rw [sk.out, H0.out])
          obtain ⟨ca, fa⟩ := HJ y (by rw [sk.out]; omega)
          obtain ⟨cb, fb⟩ := HJ (y + 1) (by rw [sk.out]; omega)
          rw [Nat.zero_add] at ca fa cb fb
          have ca' : wr.cell? ⟨blk, y, none⟩ = some (encP dk[y]!) := by rw [hwx]; exact ca
          have cb' : wr.cell? ⟨blk, y + 1, none⟩ = some (encP dk[y + 1]!) := by rw [hwx]; exact cb
          have fa' : wr.frozen? ⟨blk, y, none⟩ = false := by rw [hwx]; exact fa
          have fb' : wr.frozen? ⟨blk, y + 1, none⟩ = false := by rw [hwx]; exact fb
          clear HJ ca fa cb fb hwx
          obtain ⟨p, hp⟩ : ∃ p, y + 1 = p := ⟨_, rfl⟩
          have HP := Lib.hid hp
          have en : IntKind.i64.wrap ((p : Int) - 1) = (y : Int) := by rw [IntKind.wrap_i64]; omega
          have en' : (p : Int) - 1 = (y : Int) := by omega
          have pq : y ≠ p := by omega
          have qM : p < M := by omega
          have xM : y < M := by omega
          have xMi : (y : Int) < M := by omega
          have qMi : (p : Int) < M := by omega
          have xii : (i : Int) < (p : Int) := by omega
          have e3 : ((y + 1 : Nat) : Int) = (p : Int) := by omega
          rw [hp] at cb' fb'
          rw [e3]
          have Q12 := Lib.hid (And.intro ix (And.intro xq hx))
          clear hp e3 ix xq hx
          obtain ⟨u, hu⟩ : ∃ u, dk[y]! = u := ⟨_, rfl⟩
          obtain ⟨v, hv⟩ : ∃ v, dk[p]! = v := ⟨_, rfl⟩
          rw [hu] at ca'
          rw [hv] at cb'
          unfold encP at ca' cb'
          have HX := Lib.hid (And.intro hu hv)
          clear hu hv
          go_wp2_with fail
          go_region
          all_goals go_wp2_with fail
          go_roundw
          case rel =>
            have e1 := HP.out
            have q12 := Q12.out
            refine ⟨y, kx + 1, swp dk (y + 1) y, by omega, by omega, rfl, ?_, Lib.hid (htx.out.dn (by rw [HS.out]; omega) (by omega))⟩
            have := swap_worldC encP w blk 0 dk kx (y + 1) y (by rw [sk.out]; omega) (by rw [sk.out]; omega)
            rw [Nat.zero_add, Nat.zero_add, e1, HX.out.1, HX.out.2] at this
            rw [e1, HWx.out]
            exact this
          case measure => have := HP.out; have := Q12.out; simp [intOf]; omega
        · obtain rfl : x = i := by omega
          clear hwx
          go_wp2_with fail
          refine bodyPost_ret (v := .tuple #[]) (by simp [results, Tryd.results81, go_sem]) rfl ?_
          have lo := CU.out.low TW.out htx.out
          have hi := CU.out.high TW.out htx.out
          have ov := CU.out.over TW.out htx.out
          have mx := htx.out.mix (by omega) (by omega)
          refine ⟨rfl, dk, kx, HWx.out, mx.wide i1 (Nat.le_refl _), Two.all (Two.all lo.lo lo.hi ?_) (Two.all hi.lo hi.hi (fun y z y1 y2 z1 z2 => by omega)) ov⟩
          intro y z y1 y2 z1 z2
          rw [CU.out.a1 htx.out (Or.inl y2), CU.out.a2 htx.out z1 z2]
          have : z + (q - x) = q := by omega
          rw [this]
          exact HLO.out y y1 y2

end Go.Proofs.YtefkabkncmflpaaDoor
