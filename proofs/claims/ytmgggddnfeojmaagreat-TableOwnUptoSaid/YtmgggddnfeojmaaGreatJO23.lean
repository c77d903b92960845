/-
  Walks: entries copied, by the document. Walks: are two entries alike, by the document. Walks: are lists of entries alike, by the document. Walks: whether an entry may be, and the order of two, by the document.
-/
import Derived.Test.YtmgggddnfeojmaaGreatJO22
set_option linter.unusedSimpArgs false
set_option linter.unusedVariables false
namespace Go.Proofs.YtmgggddnfeojmaaGreat
open Go.RowKit
theorem ret_sliceN {A : Option Addr} {n m c : Nat} (h : n = m) : Ending.returned (.slice A n c) = .returned (.slice A m c) := by rw [h]
set_option maxRecDepth 100000 in
set_option maxHeartbeats 4000000 in
theorem refCopy_any (A : Option Addr) (l : List En) (n c : Nat) (w : World) (hn : l.length = n) (h : Lies w A (evals l)) (hi : EIns w l) (hl : n * 64 ≤ 140737488351232) (hs : ∀ q ∈ l, q.k.l.length ≤ 140737488351232 ∧ q.v.l.length ≤ 140737488351232) :
    Calls Tryz.prog 13 #[.slice A n c] w (ECopied w l) := by
  have HP := Lib.hid (fun (w' : World) (hb : Below w.heap.size w w') => h.kept hb)
  have HI := Lib.hid (fun (w' : World) (hb : Below w.heap.size w w') => hi.kept hb)
  have HS := Lib.hid hs
  have HN := Lib.hid hn
  clear h hn hi hs
  go_enter Tryz.func13, Tryz.ntmps13
  go_wp2_with fail
  go_loopw [3, 7] (fun t3 t7 wr => ∃ (k : Nat) (A2 : Option Addr) (c2 : Nat) (l' : List En), k ≤ n ∧ t7 = .int .i64 k ∧ t3 = .slice A2 k c2 ∧ Hid (l'.length = k) ∧ Hid (ers l' = (ers l).take k) ∧ Hid (EMades wr w.heap.size l') ∧ Hid (Erow wr w.heap.size A2 c2 l') ∧ Hid (Below w.heap.size w wr)) (fun _ t7 _ => n - (intOf t7).toNat)
  case atStart => exact ⟨0, none, 0, [], by omega, rfl, rfl, Lib.hid rfl, Lib.hid rfl, Lib.hid (EMades.nil _ _), Lib.hid (Erow.nil _ _), Lib.hid (Below.refl _ _)⟩
  case round =>
    obtain ⟨k, A2, c2, l', hk, rfl, rfl, hl2, hr, hm, r2, b2⟩ := hrel
    by_cases hlt : k < n
    · have hq := List.getElem?_eq_getElem (l := l) (i := k) (by have := HN.out; omega)
      generalize l[k]'(by have := HN.out; omega) = x at hq
      obtain ⟨ad, rfl, a0, a1, a2, a3⟩ := lies_entry (HP.out _ b2.out) hq
      have hmem := List.mem_of_getElem? hq
      have HO := Lib.hid (refOne_any x wr (HI.out _ b2.out x hmem) (HS.out x hmem).1 (HS.out x hmem).2)
      have HQ := Lib.hid (ers_get hq)
      rw [En.val_eq] at HO
      obtain ⟨m, hm2⟩ : ∃ m, x.k.l.length = m := ⟨_, rfl⟩
      obtain ⟨z, hz2⟩ : ∃ z, x.v.l.length = z := ⟨_, rfl⟩
      rw [hm2] at a0 HO
      rw [hz2] at a3 HO
      have k0 : (k : Int) < n := by omega
      clear hq hm2 hz2 hmem
      go_wp2_with (first
        | (go_at_call 38; refine HO.out.mono ?_; rintro e w6 ⟨x', hx', rfl, q1, q2, b6⟩; have HX := Lib.hid hx'; have Q1 := Lib.hid q1; have Q2 := Lib.hid q2; have B6 := Lib.hid b6; rw [En.val_eq]; clear hx' q1 q2 b6 HO)
        | (refine wpList_append_erow _ (by rfl) (.tmp 10) (.tmp 16) (by rfl) w.heap.size A2 c2 l' [x'] _ k 1 1 (by simp [Act.eval]) (by simp [Act.eval]) hl2.out rfl ((r2.out.kept B6.out (Nat.le_refl _)).alloc _) (lit_entry w6 x'.k.a x'.v.a x'.k.c x'.v.c x'.k.l x'.v.l x'.s x'.d _ _ rfl rfl) (by have := b2.out.size; have := B6.out.size; simp; omega) (by have := hl2.out; simp only [List.length_singleton]; omega) ?_; intro A8 c8 w8 r8 b8 g8))
      have W6 : w.heap.size ≤ wr.heap.size := b2.out.size
      have R8 := Lib.hid r8
      have G8 : (w6.alloc (.cells #[.slice x'.k.a x'.k.l.length x'.k.c, .int .i64 x'.s, .bool x'.d, .slice x'.v.a x'.v.l.length x'.v.c] 48)).grownBy w8 (Value.slice A2 l'.length c2).ownBlock := by rw [hl2.out]; exact g8
      have hE := (r2.out.kept B6.out (Nat.le_refl _)).alloc (.cells #[.slice x'.k.a x'.k.l.length x'.k.c, .int .i64 x'.s, .bool x'.d, .slice x'.v.a x'.v.l.length x'.v.c] 48)
      have CM := Lib.hid ((((hm.out.kept B6.out (Nat.le_refl _)).kept (below_new w6 _) (Nat.le_refl _)).besideE hE G8))
      have Q3 := Lib.hid (Row.mono ((Q1.out.kept (below_new w6 _) (Nat.le_refl _)).besideE hE G8) W6)
      have Q4 := Lib.hid (Row.mono ((Q2.out.kept (below_new w6 _) (Nat.le_refl _)).besideE hE G8) W6)
      have CB : Hid (Below w.heap.size w w8) := Lib.hid (((b2.out.trans (B6.out.mono W6)).alloc (by have := B6.out.size; omega) _).trans b8)
      clear hE G8 g8 b8 r8 W6
      go_wp2_with fail
      go_roundw
      case rel => exact ⟨k + 1, A8, c8, l' ++ [x'], by omega, by go_num, rfl, Lib.hid (by rw [List.length_append, hl2.out]; rfl), Lib.hid (by rw [ers_append, hr.out, List.take_add_one, HQ.out, ← HX.out]; rfl), Lib.hid (CM.out.snoc Q3.out Q4.out), Lib.hid R8.out, CB⟩
      case measure => simp [intOf]; omega
    · obtain rfl : k = n := by omega
      have hr' := hr.out
      rw [List.take_of_length_le (by rw [ers_len]; have := HN.out; omega)] at hr'
      have HR := Lib.hid hr'
      clear hr'
      go_wp2_with fail
      go_ret
      exact ⟨l', _, _, HR.out, ret_sliceN hl2.out.symm, hm.out, r2.out, b2.out⟩
end Go.Proofs.YtmgggddnfeojmaaGreat
namespace Go.Proofs.YtmgggddnfeojmaaGreat
open Go.RowKit
theorem rd_ne {x y : En} : x.rd ≠ y.rd ↔ ¬ (x.k.l = y.k.l ∧ x.s = y.s ∧ x.d = y.d ∧ x.v.l = y.v.l) := by
  unfold En.rd
  simp [Prod.ext_iff]
/-- Both laid in boxes. -/
theorem two_boxes (w : World) (a0 a1 a2 a3 b0 b1 b2 b3 : Value) (t u : TypeId) :
    let w2 := (w.alloc (.cells #[a0, a1, a2, a3] t)).alloc (.cells #[b0, b1, b2, b3] u)
    (w2.heap.size = w.heap.size + 2 ∧ Below w.heap.size w w2) ∧ ∀ W, Below w2.heap.size w2 W → (W.cell? ⟨w.heap.size, 0, none⟩ = some a0 ∧ W.cell? ⟨w.heap.size, 1, none⟩ = some a1 ∧ W.cell? ⟨w.heap.size, 2, none⟩ = some a2 ∧ W.cell? ⟨w.heap.size, 3, none⟩ = some a3) ∧ (W.cell? ⟨w.heap.size + 1, 0, none⟩ = some b0 ∧ W.cell? ⟨w.heap.size + 1, 1, none⟩ = some b1 ∧ W.cell? ⟨w.heap.size + 1, 2, none⟩ = some b2 ∧ W.cell? ⟨w.heap.size + 1, 3, none⟩ = some b3) := by
  intro w2
  obtain ⟨hq, hs, hb⟩ := allocs_get [.cells #[a0, a1, a2, a3] t, .cells #[b0, b1, b2, b3] u] w
  have q0 := hq 0 _ rfl
  have q1 := hq 1 _ rfl
  refine ⟨⟨hs, hb⟩, fun W hW => ?_⟩
  have p0 := (hW.block w.heap.size (Nat.lt_of_lt_of_eq (by simp) hs.symm)).trans q0
  have p1 := (hW.block (w.heap.size + 1) (Nat.lt_of_lt_of_eq (by simp) hs.symm)).trans q1
  refine ⟨⟨?_, ?_, ?_, ?_⟩, ?_, ?_, ?_, ?_⟩ <;> simp [World.cell?, p0, p1]
set_option maxRecDepth 100000 in
set_option maxHeartbeats 4000000 in
theorem refSameOne_any (x y : En) (w : World) (hx : EIn w x) (hy : EIn w y) : Calls Tryz.prog 25 #[x.val, y.val] w fun e w' => e = .returned (.bool (decide (x.rd = y.rd))) ∧ Below w.heap.size w w' := by
  obtain ⟨b, hb⟩ : ∃ b, decide (x.rd = y.rd) = b := ⟨_, rfl⟩
  rw [hb]
  have HB := Lib.hid hb
  have HS := Lib.hid (str_of_inj hx.1.byt hy.1.byt)
  have HT := Lib.hid (str_of_inj hx.2.byt hy.2.byt)
  rw [En.val_eq, En.val_eq]
  obtain ⟨n, hn⟩ : ∃ n, x.k.l.length = n := ⟨_, rfl⟩
  obtain ⟨m, hm⟩ : ∃ m, x.v.l.length = m := ⟨_, rfl⟩
  obtain ⟨n', hn'⟩ : ∃ n, y.k.l.length = n := ⟨_, rfl⟩
  obtain ⟨m', hm'⟩ : ∃ m, y.v.l.length = m := ⟨_, rfl⟩
  rw [hn, hm, hn', hm']
  have TB := two_boxes w (.slice x.k.a n x.k.c) (.int .i64 x.s) (.bool x.d) (.slice x.v.a m x.v.c) (.slice y.k.a n' y.k.c) (.int .i64 y.s) (.bool y.d) (.slice y.v.a m' y.v.c) 48 48
  obtain ⟨w2, hw2⟩ : ∃ w2, ((w.alloc (.cells #[.slice x.k.a n x.k.c, .int .i64 x.s, .bool x.d, .slice x.v.a m x.v.c] 48)).alloc (.cells #[.slice y.k.a n' y.k.c, .int .i64 y.s, .bool y.d, .slice y.v.a m' y.v.c] 48)) = w2 := ⟨_, rfl⟩
  simp only [hw2] at TB
  obtain ⟨⟨-, hbw⟩, hc⟩ := TB
  obtain ⟨⟨p0, p1, p2, p3⟩, q0, q1, q2, q3⟩ := hc w2 (Below.refl _ _)
  have C0 := conv_any (hx.1.kept hbw).bys n x.k.c hn
  have C1 := conv_any (hy.1.kept hbw).bys n' y.k.c hn'
  have C2 := conv_any (hx.2.kept hbw).bys m x.v.c hm
  have C3 := conv_any (hy.2.kept hbw).bys m' y.v.c hm'
  have HW2 := Lib.hid hbw
  clear hb hx hy hn hm hn' hm' hc hbw
  go_enter Tryz.func25, Tryz.ntmps25
  go_upto_region 1 with fail
  try rw [hw2]
  clear hw2
  by_cases e1 : x.k.l = y.k.l
  · have d1 : ((strOfNums x.k.l).toList == (strOfNums y.k.l).toList) = true := by rw [e1]; exact beq_self_eq_true _
    by_cases e2 : x.s = y.s
    · have d2 : (x.s == y.s) = true := by simpa using e2
      by_cases e3 : x.d = y.d
      · have d3 : (x.d == y.d) = true := by simpa using e3
        by_cases e4 : x.v.l = y.v.l
        · have d4 : ((strOfNums x.v.l).toList == (strOfNums y.v.l).toList) = true := by rw [e4]; exact beq_self_eq_true _
          have HV : Hid (b = true) := Lib.hid (by rw [← HB.out]; unfold En.rd; simp [e1, e2, e3, e4])
          clear e1 e2 e3 e4
          go_wp2_with fail
          go_ret
          exact ⟨by rw [HV.out]; try rfl, HW2.out⟩
        · have d4 : ((strOfNums x.v.l).toList == (strOfNums y.v.l).toList) = false := toList_ne (fun e => e4 (HT.out.1 e))
          have HV : Hid (b = false) := Lib.hid (by rw [← HB.out, decide_eq_false_iff_not]; exact rd_ne.2 (fun h => e4 h.2.2.2))
          clear e1 e2 e3 e4
          go_wp2_with fail
          go_ret
          exact ⟨by rw [HV.out]; try rfl, HW2.out⟩
      · have d3 : (x.d == y.d) = false := by simpa using e3
        have HV : Hid (b = false) := Lib.hid (by rw [← HB.out, decide_eq_false_iff_not]; exact rd_ne.2 (fun h => e3 h.2.2.1))
        clear e1 e2 e3
        go_wp2_with fail
        go_ret
        exact ⟨by rw [HV.out]; try rfl, HW2.out⟩
    · have d2 : (x.s == y.s) = false := by simpa using e2
      have HV : Hid (b = false) := Lib.hid (by rw [← HB.out, decide_eq_false_iff_not]; exact rd_ne.2 (fun h => e2 h.2.1))
      clear e1 e2
      go_wp2_with fail
      go_ret
      exact ⟨by rw [HV.out]; try rfl, HW2.out⟩
  · have d1 : ((strOfNums x.k.l).toList == (strOfNums y.k.l).toList) = false := toList_ne (fun e => e1 (HS.out.1 e))
    have HV : Hid (b = false) := Lib.hid (by rw [← HB.out, decide_eq_false_iff_not]; exact rd_ne.2 (fun h => e1 h.1))
    clear e1
    go_wp2_with fail
    go_ret
    exact ⟨by rw [HV.out]; try rfl, HW2.out⟩
end Go.Proofs.YtmgggddnfeojmaaGreat
namespace Go.Proofs.YtmgggddnfeojmaaGreat
open Go.RowKit
theorem ers_differ {l l' : List En} {k : Nat} {x y : En} (hx : (ers l)[k]? = some x.rd) (hy : (ers l')[k]? = some y.rd) (h : x.rd ≠ y.rd) : decide (ers l = ers l') = false := by
  simp only [decide_eq_false_iff_not]
  intro e
  rw [e, hy] at hx
  exact h (Option.some.inj hx).symm
theorem ers_same {l l' : List En} {k : Nat} {x y : En} (hx : (ers l)[k]? = some x.rd) (hy : (ers l')[k]? = some y.rd) (h : x.rd = y.rd) (hr : (ers l).take k = (ers l').take k) : (ers l).take (k + 1) = (ers l').take (k + 1) := by
  rw [List.take_add_one, List.take_add_one, hx, hy, hr, h]
set_option maxRecDepth 100000 in
set_option maxHeartbeats 4000000 in
theorem refSame_any (A A' : Option Addr) (l l' : List En) (n n' c c' : Nat) (w : World) (hn : l.length = n) (hn' : l'.length = n') (h : Lies w A (evals l)) (h' : Lies w A' (evals l')) (hi : EIns w l) (hi' : EIns w l') (hl : (n : Int) ≤ 9223372036854775000) :
    Calls Tryz.prog 20 #[.slice A n c, .slice A' n' c'] w fun e w' => e = .returned (.bool (decide (ers l = ers l'))) ∧ Below w.heap.size w w' := by
  obtain ⟨b, hb⟩ : ∃ b, decide (ers l = ers l') = b := ⟨_, rfl⟩
  rw [hb]
  have HB := Lib.hid hb
  have HP := Lib.hid (fun (W : World) (hb : Below w.heap.size w W) => And.intro (h.kept hb) (h'.kept hb))
  have HI := Lib.hid (fun (W : World) (hb : Below w.heap.size w W) => And.intro (hi.kept hb) (hi'.kept hb))
  have HN := Lib.hid (And.intro hn hn')
  clear h h' hi hi' hb hn hn'
  by_cases hnn : n = n'
  · subst hnn
    go_enter Tryz.func20, Tryz.ntmps20
    go_wp2_with fail
    go_loopw [13] (fun t13 wr => ∃ k : Nat, k ≤ n ∧ t13 = .int .i64 k ∧ Hid ((ers l).take k = (ers l').take k) ∧ Hid (Below w.heap.size w wr)) (fun t13 _ => n - (intOf t13).toNat)
    case atStart => exact ⟨0, by omega, rfl, Lib.hid rfl, Lib.hid (Below.refl _ _)⟩
    case round =>
      obtain ⟨k, hk, rfl, hr, hbw⟩ := hrel
      by_cases hlt : k < n
      · have hq := List.getElem?_eq_getElem (l := l) (i := k) (by have := HN.out.1; omega)
        generalize l[k]'(by have := HN.out.1; omega) = x at hq
        have hq' := List.getElem?_eq_getElem (l := l') (i := k) (by have := HN.out.2; omega)
        generalize l'[k]'(by have := HN.out.2; omega) = y at hq'
        obtain ⟨ad, rfl, a0⟩ := lies_entry (HP.out _ hbw.out).1 hq
        obtain ⟨ad', rfl, b0⟩ := lies_entry (HP.out _ hbw.out).2 hq'
        have HA := Lib.hid (fun (W : World) (hb : Below w.heap.size w W) => lies_entry_at (HP.out W hb).1 hq)
        have HA' := Lib.hid (fun (W : World) (hb : Below w.heap.size w W) => lies_entry_at (HP.out W hb).2 hq')
        have HSO := Lib.hid (fun (W : World) (hb : Below w.heap.size w W) => refSameOne_any x y W ((HI.out W hb).1 x (List.mem_of_getElem? hq)) ((HI.out W hb).2 y (List.mem_of_getElem? hq')))
        have HQ := Lib.hid (And.intro (ers_get hq) (ers_get hq'))
        unfold AtE at HA HA'
        simp only [En.val_eq] at HSO
        obtain ⟨m, hm⟩ : ∃ m, x.k.l.length = m := ⟨_, rfl⟩
        obtain ⟨z, hz⟩ : ∃ m, x.v.l.length = m := ⟨_, rfl⟩
        obtain ⟨m', hm'⟩ : ∃ m, y.k.l.length = m := ⟨_, rfl⟩
        obtain ⟨z', hz'⟩ : ∃ m, y.v.l.length = m := ⟨_, rfl⟩
        rw [hm, hz] at HA HSO
        rw [hm', hz'] at HA' HSO
        have CB := Lib.hid hbw.out
        have WS : Hid (w.heap.size ≤ wr.heap.size) := Lib.hid hbw.out.size
        have k0 : (k : Int) < n := by omega
        clear hq hq' hm hz hm' hz' a0 b0
        obtain ⟨B, hBB⟩ : ∃ B, decide (x.rd = y.rd) = B := ⟨_, rfl⟩
        rw [hBB] at HSO
        have HBB := Lib.hid hBB
        clear hBB
        go_upto_region 6 with fail
        go_region_held3 (fun W => (W.cell? (ad.add (k * 4)) = some (.slice x.k.a m x.k.c) ∧ W.cell? ⟨(ad.add (k * 4)).block, (ad.add (k * 4)).off + 1, none⟩ = some (.int .i64 x.s) ∧ W.cell? ⟨(ad.add (k * 4)).block, (ad.add (k * 4)).off + 2, none⟩ = some (.bool x.d) ∧ W.cell? ⟨(ad.add (k * 4)).block, (ad.add (k * 4)).off + 3, none⟩ = some (.slice x.v.a z x.v.c)) ∧ (W.cell? (ad'.add (k * 4)) = some (.slice y.k.a m' y.k.c) ∧ W.cell? ⟨(ad'.add (k * 4)).block, (ad'.add (k * 4)).off + 1, none⟩ = some (.int .i64 y.s) ∧ W.cell? ⟨(ad'.add (k * 4)).block, (ad'.add (k * 4)).off + 2, none⟩ = some (.bool y.d) ∧ W.cell? ⟨(ad'.add (k * 4)).block, (ad'.add (k * 4)).off + 3, none⟩ = some (.slice y.v.a z' y.v.c))) (first | exact ⟨HA.out _ CB.out, HA'.out _ CB.out⟩ | exact ⟨HA.out _ CB.out.drew, HA'.out _ CB.out.drew⟩ | go_keep) (first | (go_at_call 25; refine (HSO.out _ (by first | exact CB.out | exact CB.out.drew)).mono ?_; rintro e w6 ⟨rfl, b6⟩; have CB : Hid (Below w.heap.size w w6) := Lib.hid ((by first | exact CB.out | exact CB.out.drew : Below w.heap.size w _).trans (b6.mono WS.out)); clear b6))
        all_goals
          cases B
          · have HV : Hid (b = false) := Lib.hid (by rw [← HB.out]; exact ers_differ HQ.out.1 HQ.out.2 (of_decide_eq_false HBB.out))
            go_wp2_with fail
            go_ret
            exact ⟨by rw [HV.out]; try rfl, CB.out⟩
          · have HR := Lib.hid (ers_same HQ.out.1 HQ.out.2 (of_decide_eq_true HBB.out) hr.out)
            go_wp2_with fail
            go_roundw
            case rel => exact ⟨k + 1, by omega, by go_num, HR, CB⟩
            case measure => simp [intOf]; omega
      · obtain rfl : k = n := by omega
        have hr' := hr.out
        rw [List.take_of_length_le (by rw [ers_len]; have := HN.out.1; omega), List.take_of_length_le (by rw [ers_len]; have := HN.out.2; omega)] at hr'
        have HV : Hid (b = true) := Lib.hid (by rw [← HB.out]; simpa using hr')
        clear hr' hr
        go_wp2_with fail
        go_ret
        exact ⟨by rw [HV.out]; try rfl, hbw.out⟩
  · have d0 : ((n : Int) != n') = true := by simp; omega
    have HV : Hid (b = false) := Lib.hid (by rw [← HB.out]; simp; intro e; have := congrArg List.length e; rw [ers_len, ers_len] at this; have := HN.out; omega)
    go_enter Tryz.func20, Tryz.ntmps20
    go_wp2_with fail
    go_ret
    exact ⟨by rw [HV.out]; try rfl, Below.refl _ _⟩
end Go.Proofs.YtmgggddnfeojmaaGreat
namespace Go.Proofs.YtmgggddnfeojmaaGreat
open Go.RowKit
set_option maxRecDepth 100000 in
set_option maxHeartbeats 4000000 in
theorem refGood_any (q : En) (w : World) : Calls Tryz.prog 39 #[q.val] w fun e w' => e = .returned (.bool (decide (GoodE q.rd))) ∧ Below w.heap.size w w' := by
  obtain ⟨b, hb⟩ : ∃ b, decide (GoodE q.rd) = b := ⟨_, rfl⟩
  rw [hb, En.val_eq]
  obtain ⟨⟨ka, kc, k⟩, s, d, ⟨va, vc, v⟩⟩ := q
  have HB : Hid (decide (((1 ≤ k.length ∧ k.length ≤ 200) ∧ (1 ≤ s ∧ s ≤ 1099511627776) ∧ v.length ≤ 4096 ∧ (d = true → v = []))) = b) := Lib.hid hb
  have HV : Hid (v = [] ↔ v.length = 0) := Lib.hid List.length_eq_zero_iff.symm
  simp only
  obtain ⟨n, hn⟩ : ∃ n, k.length = n := ⟨_, rfl⟩
  obtain ⟨m, hm⟩ : ∃ m, v.length = m := ⟨_, rfl⟩
  simp only [hn, hm]
  have HB2 : Hid (decide (((1 ≤ n ∧ n ≤ 200) ∧ (1 ≤ s ∧ s ≤ 1099511627776) ∧ m ≤ 4096 ∧ (d = true → m = 0))) = b) := Lib.hid (by rw [← HB.out, hn, hm]; congr 1; rw [HV.out, hm])
  clear hb HB HV hn hm
  obtain ⟨B1, C1⟩ := box_cells w (.slice ka n kc) (.int .i64 s) (.bool d) (.slice va m vc)
  obtain ⟨x0, x1, x2, x3⟩ := C1 _ (Below.refl _ _)
  have HB1 := Lib.hid B1
  clear C1 B1
  by_cases h0 : ¬ (1 ≤ n)
  · have d0 : decide ((1 : Int) ≤ (n : Int)) = false := decide_eq_false (by omega)
    obtain rfl : b = false := by rw [← HB2.out, decide_eq_false_iff_not]; omega
    clear h0
    clear HB2
    go_enter Tryz.func39, Tryz.ntmps39
    go_wp2_with fail
    go_ret
    exact ⟨by first | rfl | simp, HB1.out⟩
  have d0 : decide ((1 : Int) ≤ (n : Int)) = true := decide_eq_true (by omega)
  by_cases h1 : ¬ (n ≤ 200)
  · have d1 : decide ((n : Int) ≤ 200) = false := decide_eq_false (by omega)
    obtain rfl : b = false := by rw [← HB2.out, decide_eq_false_iff_not]; omega
    clear h1
    clear HB2
    go_enter Tryz.func39, Tryz.ntmps39
    go_wp2_with fail
    go_ret
    exact ⟨by first | rfl | simp, HB1.out⟩
  have d1 : decide ((n : Int) ≤ 200) = true := decide_eq_true (by omega)
  by_cases h2 : ¬ (1 ≤ s)
  · have d2 : decide (1 ≤ s) = false := decide_eq_false (by omega)
    obtain rfl : b = false := by rw [← HB2.out, decide_eq_false_iff_not]; omega
    clear h2
    clear HB2
    go_enter Tryz.func39, Tryz.ntmps39
    go_wp2_with fail
    go_ret
    exact ⟨by first | rfl | simp, HB1.out⟩
  have d2 : decide (1 ≤ s) = true := decide_eq_true (by omega)
  by_cases h3 : ¬ (s ≤ 1099511627776)
  · have d3 : decide (s ≤ 1099511627776) = false := decide_eq_false (by omega)
    obtain rfl : b = false := by rw [← HB2.out, decide_eq_false_iff_not]; omega
    clear h3
    clear HB2
    go_enter Tryz.func39, Tryz.ntmps39
    go_wp2_with fail
    go_ret
    exact ⟨by first | rfl | simp, HB1.out⟩
  have d3 : decide (s ≤ 1099511627776) = true := decide_eq_true (by omega)
  by_cases h4 : ¬ (m ≤ 4096)
  · have d4 : decide ((m : Int) ≤ 4096) = false := decide_eq_false (by omega)
    obtain rfl : b = false := by rw [← HB2.out, decide_eq_false_iff_not]; omega
    clear h4
    clear HB2
    go_enter Tryz.func39, Tryz.ntmps39
    go_wp2_with fail
    go_ret
    exact ⟨by first | rfl | simp, HB1.out⟩
  have d4 : decide ((m : Int) ≤ 4096) = true := decide_eq_true (by omega)
  cases d
  · obtain rfl : b = true := by rw [← HB2.out, decide_eq_true_iff]; exact ⟨⟨by omega, by omega⟩, ⟨by omega, by omega⟩, by omega, fun e => by cases e⟩
    clear h0 h1 h2 h3 h4
    clear HB2
    go_enter Tryz.func39, Tryz.ntmps39
    go_wp2_with fail
    go_ret
    exact ⟨by first | rfl | simp, HB1.out⟩
  · by_cases h5 : m = 0
    · subst h5
      obtain rfl : b = true := by rw [← HB2.out, decide_eq_true_iff]; exact ⟨⟨by omega, by omega⟩, ⟨by omega, by omega⟩, by omega, fun _ => rfl⟩
      clear h0 h1 h2 h3 h4
      clear HB2
      go_enter Tryz.func39, Tryz.ntmps39
      go_wp2_with fail
      go_ret
      exact ⟨by first | rfl | simp, HB1.out⟩
    · obtain rfl : b = false := by rw [← HB2.out, decide_eq_false_iff_not]; exact fun h => h5 (h.2.2.2 rfl)
      have d5 : ((m : Int) == 0) = false := by simpa using h5
      clear h0 h1 h2 h3 h4 h5
      clear HB2
      go_enter Tryz.func39, Tryz.ntmps39
      go_wp2_with fail
      go_ret
      exact ⟨by first | rfl | simp, HB1.out⟩
set_option maxRecDepth 100000 in
set_option maxHeartbeats 4000000 in
theorem less_bytes (L M : List Int) (w : World) (hL : Byt L) (hM : Byt M) (l1 : L.length ≤ 281474976710656) (l2 : M.length ≤ 281474976710656) : Calls Tryz.prog 31 #[.string (strOfNums L), .string (strOfNums M)] w fun e w' => e = .returned (.int .i64 (cmpL L M)) ∧ ∃ k, w' = w.drewN k := by
  have h := less_any (strOfNums L) (strOfNums M) w (by rw [← nums_len, nums_of_str L hL]; exact l1) (by rw [← nums_len, nums_of_str M hM]; exact l2)
  rwa [nums_of_str L hL, nums_of_str M hM] at h
set_option maxRecDepth 100000 in
set_option maxHeartbeats 4000000 in
theorem refCmp_any (x y : En) (w : World) (hx : EIn w x) (hy : EIn w y) (l1 : x.k.l.length ≤ 281474976710656) (l2 : y.k.l.length ≤ 281474976710656) : Calls Tryz.prog 40 #[x.val, y.val] w fun e w' => e = .returned (.int .i64 (ordE x.rd y.rd)) ∧ Below w.heap.size w w' := by
  obtain ⟨o, ho⟩ : ∃ o, ordE x.rd y.rd = o := ⟨_, rfl⟩
  rw [ho]
  have HO : Hid ((if cmpL x.k.l y.k.l ≠ 0 then cmpL x.k.l y.k.l else if y.s < x.s then -1 else if x.s < y.s then 1 else 0) = o) := Lib.hid ho
  rw [En.val_eq, En.val_eq]
  obtain ⟨n, hn⟩ : ∃ n, x.k.l.length = n := ⟨_, rfl⟩
  obtain ⟨m, hm⟩ : ∃ m, x.v.l.length = m := ⟨_, rfl⟩
  obtain ⟨n', hn'⟩ : ∃ n, y.k.l.length = n := ⟨_, rfl⟩
  obtain ⟨m', hm'⟩ : ∃ m, y.v.l.length = m := ⟨_, rfl⟩
  rw [hn, hm, hn', hm']
  have TB := two_boxes w (.slice x.k.a n x.k.c) (.int .i64 x.s) (.bool x.d) (.slice x.v.a m x.v.c) (.slice y.k.a n' y.k.c) (.int .i64 y.s) (.bool y.d) (.slice y.v.a m' y.v.c) 48 48
  obtain ⟨w2, hw2⟩ : ∃ w2, ((w.alloc (.cells #[.slice x.k.a n x.k.c, .int .i64 x.s, .bool x.d, .slice x.v.a m x.v.c] 48)).alloc (.cells #[.slice y.k.a n' y.k.c, .int .i64 y.s, .bool y.d, .slice y.v.a m' y.v.c] 48)) = w2 := ⟨_, rfl⟩
  simp only [hw2] at TB
  obtain ⟨⟨-, hbw⟩, hc⟩ := TB
  obtain ⟨⟨p0, p1, p2, p3⟩, q0, q1, q2, q3⟩ := hc w2 (Below.refl _ _)
  have C0 := conv_any (hx.1.kept hbw).bys n x.k.c hn
  have C1 := conv_any (hy.1.kept hbw).bys n' y.k.c hn'
  have HLS := Lib.hid (less_bytes x.k.l y.k.l w2 hx.1.byt hy.1.byt l1 l2)
  have HW2 := Lib.hid hbw
  have HCC := Lib.hid hc
  clear ho hx hy hn hm hn' hm' hc hbw l1 l2
  obtain ⟨c, hc⟩ : ∃ c, cmpL x.k.l y.k.l = c := ⟨_, rfl⟩
  rw [hc] at HLS HO
  clear hc
  go_enter Tryz.func40, Tryz.ntmps40
  go_upto_region 2 with (go_at_call 31; refine HLS.out.mono ?_; rintro e w3 ⟨rfl, kk, hk3⟩; have W3 : Hid (Below w2.heap.size w2 w3) := Lib.hid (hk3 ▸ below_drewN (Below.refl _ _) kk); clear hk3)
  obtain ⟨⟨r0, r1, r2, r3⟩, s0, s1, s2, s3⟩ := HCC.out w3 W3.out
  have HE : Hid (Below w.heap.size w w3) := Lib.hid (HW2.out.trans (W3.out.mono HW2.out.size))
  clear p0 p1 p2 p3 q0 q1 q2 q3 C0 C1 HLS HCC
  by_cases h0 : c = 0
  · subst h0
    by_cases h1 : y.s < x.s
    · have d1 : decide (y.s < x.s) = true := decide_eq_true h1
      have HV : Hid (o = -1) := Lib.hid (by rw [← HO.out]; simp [h1])
      clear h1
      go_wp2_with fail
      go_ret
      exact ⟨by rw [HV.out]; try rfl, HE.out⟩
    · have d1 : decide (y.s < x.s) = false := decide_eq_false h1
      by_cases h2 : x.s < y.s
      · have d2 : decide (x.s < y.s) = true := decide_eq_true h2
        have HV : Hid (o = 1) := Lib.hid (by rw [← HO.out]; simp [h1, h2])
        clear h1 h2
        go_wp2_with fail
        go_ret
        exact ⟨by rw [HV.out]; try rfl, HE.out⟩
      · have d2 : decide (x.s < y.s) = false := decide_eq_false h2
        have HV : Hid (o = 0) := Lib.hid (by rw [← HO.out]; simp [h1, h2])
        clear h1 h2
        go_wp2_with fail
        go_ret
        exact ⟨by rw [HV.out]; try rfl, HE.out⟩
  · have d0 : (c == 0) = false := by simpa using h0
    have HV : Hid (o = c) := Lib.hid (by rw [← HO.out, if_pos h0])
    clear h0
    go_wp2_with fail
    go_ret
    exact ⟨by rw [HV.out]; try rfl, HE.out⟩
end Go.Proofs.YtmgggddnfeojmaaGreat
