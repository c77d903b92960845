/-
  Walks: two stretches are merged: one of them of one number.
-/
import Derived.Test.YtefkabkncmflpaaDoorWkP
namespace Go.Proofs.YtefkabkncmflpaaDoor
open Go.RowKit Go.Sort Go.Shelf

variable {m : Nat}

theorem Turned.up {d dk : Array (Pl m)} {a x : Nat} (h : Turned d dk a (a + 1) (x + 1)) (hx : x + 1 < d.size) (ha : a ≤ x) : Turned d (swp dk x (x + 1)) a (a + 1) (x + 1 + 1) := by
  refine ⟨by rw [size_swp]; exact h.1, fun k => ?_⟩
  rw [get_swp dk x (x + 1) k (by rw [h.1]; omega) (by rw [h.1]; omega), h.2, h.2, h.2]
  unfold rot
  by_cases e1 : k = x + 1
  · subst e1
    rw [if_pos rfl, if_pos (by omega), if_neg (by omega), if_pos (by omega), if_neg (by omega)]
    exact congrArg (fun t => d[t]!) (by omega)
  · rw [if_neg e1]
    by_cases e2 : k = x
    · subst e2
      rw [if_pos rfl, if_neg (by omega), if_pos (by omega), if_pos (by omega)]
      exact congrArg (fun t => d[t]!) (by omega)
    · rw [if_neg e2]
      by_cases e3 : a ≤ k ∧ k < x + 1
      · rw [if_pos e3, if_pos (by omega), if_pos (by omega), if_pos (by omega)]
      · rw [if_neg e3, if_neg (by omega)]
/-- A search's step: all up to h, or all from h on. -/
theorem Srt.down {r : Pl m → Int} {d : Array (Pl m)} {a b h x : Nat} {y : Pl m} (s : Srt r d a b) (t : tl r d[h]! y) (x1 : a ≤ x) (xh : x ≤ h) (hb : h < b) : tl r d[x]! y := by
  rcases s.le x1 xh hb with rfl | k
  · exact t
  · exact tl_trans k t
theorem Srt.upw {r : Pl m → Int} {d : Array (Pl m)} {a b h x : Nat} {y : Pl m} (s : Srt r d a b) (t : tl r y d[h]!) (h1 : a ≤ h) (hx : h ≤ x) (xb : x < b) : tl r y d[x]! := by
  rcases s.le h1 hx xb with rfl | k
  · exact t
  · exact tl_trans t k

/-- Behind the merge: the same numbers from a to b, sorted; nothing else has turned. -/
def Merged (r : Pl m → Int) (w : World) (blk : Nat) (d : Array (Pl m)) (a b : Nat) (e : Ending) (w' : World) : Prop :=
  e = .returned (.tuple #[]) ∧ ∃ (d' : Array (Pl m)) (k : Nat), w' = (putRow encP w blk 0 d').drewN k ∧ Mix d d' a b ∧ Srt r d' a b

set_option maxRecDepth 100000 in
set_option maxHeartbeats 4000000 in
theorem sym_left (r : Pl m → Int) (cf : Pl m → Pl m → Int) (hcf : ∀ x y, ltOf cf x y = decide (r y < r x)) (g : Nat) (cb : Array Value) (blk cap M a b k0 : Nat) (hM : m + 1 = M) (hm : M ≤ 1024) (d0 d : Array (Pl m)) (w : World)
    (eg : ∀ args w, (callFunc g args).run Tryd.prog w = .ok (.enter g args) w) (hcmp : CmpReads Tryd.prog g cb encP cf blk 0 M w) (hH : Holds encP w blk 0 d0) (h0 : d0.size = M) (hs : d.size = M) (h2 : a + 1 < b) (h3 : b ≤ M) (tw : Two r d a (a + 1) b) :
    Calls Tryd.prog 81 #[.slice (some ⟨blk, 0, none⟩) M cap, .int .i64 a, .int .i64 ((a : Int) + 1), .int .i64 b, .func (.func g) #[] cb] ((putRow encP w blk 0 d).drewN k0) (Merged r w blk d a b) := by
  have hcAt : ∀ (X : Array (Pl m)) (x y : Pl m), X.size = M → ∀ k n, Calls Tryd.prog g (#[encP x, encP y] ++ cb) (((putRow encP w blk 0 X).drewN k).drewN n) fun e w' => e = .returned (.int .i64 (cf x y)) ∧ ∃ q, w' = (((putRow encP w blk 0 X).drewN k).drewN n).drewN q := fun X x y hX k n => by
    have := hcmp (k + n) #[] X hX x y
    rw [sortWorld_none, ← World.drewN_drewN] at this
    exact this
  have HC := Lib.hid hcAt
  have HCF := Lib.hid hcf
  have HH := Lib.hid hH
  have H0 := Lib.hid h0
  have HS := Lib.hid hs
  have HM := Lib.hid hM
  have TW := Lib.hid tw
  clear hcAt hcmp hcf hH h0 hs hM tw
  have c1 : ((a : Int) + 1 - (a : Int) == 1) = true := by simp; omega
  have M1 : (M : Int) ≤ 1024 := by omega
  have b1 : (b : Int) ≤ M := by omega
  have ab : (a : Int) + 1 < b := by omega
  go_enter Tryd.func81, Tryd.ntmps81
  go_wp2_with fail
  go_loopw [10, 11] (fun t10 t11 wr => ∃ (i j k : Nat), a + 1 ≤ i ∧ i ≤ j ∧ j ≤ b ∧ t10 = .int .i64 i ∧ t11 = .int .i64 j ∧ wr = (putRow encP w blk 0 d).drewN k ∧ Hid (∀ x, a + 1 ≤ x → x < i → tl r d[x]! d[a]!) ∧ Hid (∀ x, j ≤ x → x < b → tl r d[a]! d[x]!)) (fun t10 t11 _ => (intOf t11).toNat - (intOf t10).toNat)
  case atStart => exact ⟨a + 1, b, k0, by omega, by omega, by omega, by go_num, rfl, rfl, Lib.hid (fun x _ _ => absurd (show x < x by omega) (by omega)), Lib.hid (fun x _ _ => absurd (show x < x by omega) (by omega))⟩
  case round =>
    obtain ⟨i, j, k, i1, ij, jb, rfl, rfl, hwr, hlo, hhi⟩ := hrel
    by_cases hlt : i < j
    · have hlti : (i : Int) < j := by omega
      obtain ⟨h, hh⟩ : ∃ h, (i + j) / 2 = h := ⟨_, rfl⟩
      have HHH := Lib.hid hh
      have e1 : ((i : Int) + j) / 2 = h := by omega
      have i0 : (i : Int) ≤ 1024 := by omega
      have j0 : (j : Int) ≤ 1024 := by omega
      have hM' : h < M := by omega
      have hMi : (h : Int) < M := by omega
      have aMi : (a : Int) < M := by omega
      have HJ := holds_putRow encP w blk 0 d0 d HH.out (by rw [HS.out, H0.out])
      obtain ⟨ch, fh⟩ := HJ h (by rw [HS.out]; omega)
      obtain ⟨ca, fa⟩ := HJ a (by rw [HS.out]; omega)
      rw [Nat.zero_add] at ch ca
      have ch' : wr.cell? ⟨blk, h, none⟩ = some (encP d[h]!) := by rw [hwr]; exact ch
      have ca' : wr.cell? ⟨blk, a, none⟩ = some (encP d[a]!) := by rw [hwr]; exact ca
      obtain ⟨x, hx⟩ : ∃ x, d[h]! = x := ⟨_, rfl⟩
      obtain ⟨y, hy⟩ : ∃ y, d[a]! = y := ⟨_, rfl⟩
      have HX := Lib.hid (And.intro hx hy)
      have hc := HC.out d x y HS.out k
      rw [← hwr] at hc
      rw [hx] at ch'
      rw [hy] at ca'
      unfold encP at ch' ca'
      have HW := Lib.hid hwr
      clear HJ ch fh ca fa hx hy hwr hh
      have T := Lib.hid (TW.out.test a h (by omega) (by omega) (by omega) (by omega))
      have L := Lib.hid (HCF.out d[h]! d[a]!)
      by_cases hl : cf x y < 0
      · have LO : Hid (∀ z, a + 1 ≤ z → z < h + 1 → tl r d[z]! d[a]!) := Lib.hid (fun z z1 z2 => by
          have t := T.out.1 (by have := L.out; rw [HX.out.1, HX.out.2] at this ⊢; unfold ltOf at this; exact of_decide_eq_true (this.symm.trans (decide_eq_true hl)))
          exact TW.out.hi.down t z1 (by omega) (by omega))
        go_wp2_with fail
        go_quiet ((go_at_fn g; refine Calls.quiet_of (hc _)))
        go_wp2_with fail
        go_roundw
        case rel => exact ⟨h + 1, j, k + nq, by omega, by omega, jb, by go_num, rfl, by rw [HW.out, World.drewN_drewN], LO, hhi⟩
        case measure => have := HHH.out; simp [intOf]; omega
      · have HI : Hid (∀ z, h ≤ z → z < b → tl r d[a]! d[z]!) := Lib.hid (fun z z1 z2 => by
          have t := T.out.2 (by have := L.out; rw [HX.out.1, HX.out.2] at this ⊢; unfold ltOf at this; exact of_decide_eq_false (this.symm.trans (decide_eq_false hl)))
          exact TW.out.hi.upw t (by omega) z1 z2)
        go_wp2_with fail
        go_quiet ((go_at_fn g; refine Calls.quiet_of (hc _)))
        go_wp2_with fail
        go_roundw
        case rel => exact ⟨i, h, k + nq, i1, by omega, by omega, rfl, rfl, by rw [HW.out, World.drewN_drewN], hlo, HI⟩
        case measure => have := HHH.out; simp [intOf]; omega
    · obtain rfl : i = j := by omega
      have CU : Hid (Cuts r d a (a + 1) b a i) := Lib.hid ⟨Nat.le_refl _, by omega, i1, jb, fun x y x1 x2 => by omega, fun x y x1 x2 y1 y2 => by
        obtain rfl : x = a := by omega
        exact hlo.out y y1 y2⟩
      have HHI := Lib.hid hhi.out
      have HW := Lib.hid hwr
      have HT := Lib.hid (Turned.left d a (a + 1))
      clear hlo hhi hwr
      have iz : (i : Int) ≤ 1024 := by omega
      go_wp2_with fail
      go_loopw [13] (fun t13 wx => ∃ (x kx : Nat) (dk : Array (Pl m)), a ≤ x ∧ x + 1 ≤ i ∧ t13 = .int .i64 x ∧ wx = (putRow encP w blk 0 dk).drewN kx ∧ Hid (Turned d dk a (a + 1) (x + 1))) (fun t13 _ => i - (intOf t13).toNat)
      case atStart => exact ⟨a, k, d, Nat.le_refl _, i1, rfl, HW.out, Lib.hid (Turned.right d a (a + 1))⟩
      case round =>
        obtain ⟨x, kx, dk, ax, xi, rfl, hwx, htx⟩ := hrel
        have HWx := Lib.hid hwx
        have sk : Hid (dk.size = M) := Lib.hid (by rw [htx.out.1]; exact HS.out)
        by_cases hx : x + 1 < i
        · have HJ := holds_putRow encP w blk 0 d0 dk HH.out (by rw [sk.out, H0.out])
          obtain ⟨ca, fa⟩ := HJ x (by rw [sk.out]; omega)
          obtain ⟨cb, fb⟩ := HJ (x + 1) (by rw [sk.out]; omega)
          rw [Nat.zero_add] at ca fa cb fb
          have ca' : wr.cell? ⟨blk, x, none⟩ = some (encP dk[x]!) := by rw [hwx]; exact ca
          have cb' : wr.cell? ⟨blk, x + 1, none⟩ = some (encP dk[x + 1]!) := by rw [hwx]; exact cb
          have fa' : wr.frozen? ⟨blk, x, none⟩ = false := by rw [hwx]; exact fa
          have fb' : wr.frozen? ⟨blk, x + 1, none⟩ = false := by rw [hwx]; exact fb
          clear HJ ca fa cb fb hwx
          obtain ⟨q, hq⟩ : ∃ q, x + 1 = q := ⟨_, rfl⟩
          have HQ := Lib.hid hq
          have en : IntKind.i64.wrap ((x : Int) + 1) = (q : Int) := by rw [IntKind.wrap_i64]; omega
          have en' : (x : Int) + 1 = (q : Int) := by omega
          have pq : x ≠ q := by omega
          have qM : q < M := by omega
          have xM : x < M := by omega
          have xMi : (x : Int) < M := by omega
          have qMi : (q : Int) < M := by omega
          have xii : (x : Int) < (i : Int) - 1 := by omega
          rw [hq] at cb' fb'
          clear hq
          obtain ⟨u, hu⟩ : ∃ u, dk[x]! = u := ⟨_, rfl⟩
          obtain ⟨v, hv⟩ : ∃ v, dk[q]! = v := ⟨_, rfl⟩
          rw [hu] at ca'
          rw [hv] at cb'
          unfold encP at ca' cb'
          have HX := Lib.hid (And.intro hu hv)
          clear hu hv
          go_wp2_with fail
          go_region
          all_goals go_wp2_with fail
          go_roundw
          case rel =>
            have e1 := HQ.out
            refine ⟨x + 1, kx + 1, swp dk x (x + 1), by omega, by omega, by rw [e1], ?_, Lib.hid (htx.out.up (by rw [HS.out]; omega) ax)⟩
            have := swap_worldC encP w blk 0 dk kx x (x + 1) (by rw [sk.out]; omega) (by rw [sk.out]; omega)
            rw [Nat.zero_add, Nat.zero_add, e1, HX.out.1, HX.out.2] at this
            rw [e1, HWx.out]
            exact this
          case measure => have := HQ.out; simp [intOf]; omega
        · obtain rfl : x + 1 = i := by omega
          clear hwx
          have xii : ¬ (x : Int) < ((x + 1 : Nat) : Int) - 1 := by omega
          go_wp2_with fail
          refine bodyPost_ret (v := .tuple #[]) (by simp [results, Tryd.results81, go_sem]) rfl ?_
          have lo := CU.out.low TW.out htx.out
          have hi := CU.out.high TW.out htx.out
          have ov := CU.out.over TW.out htx.out
          have mx := htx.out.mix (by omega) i1
          refine ⟨rfl, dk, kx, HWx.out, mx.wide (Nat.le_refl _) jb, Two.all lo.hi (Two.all hi.lo hi.hi ?_) ov⟩
          intro y z y1 y2 z1 z2
          rw [CU.out.a3 htx.out y1 y2, CU.out.a1 htx.out (Or.inr z1)]
          have : y - (x + 1 - (a + 1)) = a := by omega
          rw [this]
          exact HHI.out z z1 z2

end Go.Proofs.YtefkabkncmflpaaDoor
