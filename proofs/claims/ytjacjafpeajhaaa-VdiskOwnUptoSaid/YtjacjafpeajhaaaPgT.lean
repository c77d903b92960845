/-
  Walks: files copied and compared, however many; a plan copied; bytes compared; an append that crashes.
-/
import Derived.Test.YtjacjafpeajhaaaLawB
namespace Go.Proofs.Ytjacjafpeajhaaa
open Go.RowKit
open Go.Maps

set_option maxRecDepth 100000 in
set_option maxHeartbeats 4000000 in
theorem refCopy_wide (A : Option Addr) (l : List Fl) (n c : Nat) (w : World) (hn : l.length = n) (h : Lies w A (fvals l)) (hi : Ins w l) (hl : n * 48 ≤ 140737488355328) (hs : ∀ q ∈ l, q.d.l.length ≤ 140737488355328) :
    Calls Try.prog 11 #[.slice A n c] w (Copied w l) := by
  have HP := Lib.hid (fun (w' : World) (hb : Below w.heap.size w w') => h.kept hb)
  have HI := Lib.hid (fun (w' : World) (hb : Below w.heap.size w w') => hi.kept hb)
  have HS := Lib.hid hs
  have HN := Lib.hid hn
  clear h hn hi hs
  go_enter Try.func11, Try.ntmps11
  go_wp2_with fail
  go_loopw [3, 7] (fun t3 t7 wr => ∃ (k : Nat) (A2 : Option Addr) (c2 : Nat) (l' : List Fl), k ≤ n ∧ t7 = .int .i64 k ∧ t3 = .slice A2 k c2 ∧ Hid (l'.length = k) ∧ Hid (l'.map Fl.rd = (l.take k).map Fl.rd) ∧ Hid (Mades wr w.heap.size l') ∧ Hid (Frow wr w.heap.size A2 c2 l') ∧ Hid (Below w.heap.size w wr)) (fun _ t7 _ => n - (intOf t7).toNat)
  case atStart => exact ⟨0, none, 0, [], by omega, rfl, rfl, Lib.hid rfl, Lib.hid rfl, Lib.hid (Mades.nil _ _), Lib.hid (Frow.nil _ _), Lib.hid (Below.refl _ _)⟩
  case round =>
    obtain ⟨k, A2, c2, l', hk, rfl, rfl, hl2, hr, hm, r2, b2⟩ := hrel
    by_cases hlt : k < n
    · have hq := List.getElem?_eq_getElem (l := l) (i := k) (by have := HN.out; omega)
      generalize l[k]'(by have := HN.out; omega) = x at hq
      obtain ⟨ad, rfl, a0, a1, a2⟩ := lies_file (HP.out _ b2.out) hq
      have HA := Lib.hid (fun (w' : World) (hb : Below w.heap.size w w') => lies_file_at (HP.out w' hb) hq)
      have HX := Lib.hid (fun (w' : World) (hb : Below w.heap.size w w') => (HI.out w' hb) x (List.mem_of_getElem? hq))
      have HL := Lib.hid (HS.out x (List.mem_of_getElem? hq))
      have HQ := Lib.hid hq
      clear hq
      have CB := Lib.hid b2.out
      have CF := Lib.hid r2.out
      have CM := Lib.hid hm.out
      have WS : Hid (w.heap.size ≤ wr.heap.size) := Lib.hid b2.out.size
      have B1 : Hid (Below wr.heap.size wr (wr.alloc (.cells #[] 5)).drew) := Lib.hid (below_new _ _).drew
      have R1 : Hid (Row (wr.alloc (.cells #[] 5)).drew wr.heap.size (some ⟨wr.heap.size, 0, none⟩) 0 []) := Lib.hid ((row_made wr wr.heap.size [] #[] rfl (by simp) (Nat.le_refl _)).kept (Below.refl _ _).drew (Nat.le_refl _))
      have S1 : Hid (wr.heap.size ≤ (wr.alloc (.cells #[] 5)).drew.heap.size) := Lib.hid B1.out.size
      obtain ⟨xs, ⟨xa, xc, xl⟩, xy⟩ := x
      obtain ⟨m, hm2⟩ : ∃ m, xl.length = m := ⟨_, rfl⟩
      simp only at a0 a1 a2 HX HL
      rw [hm2] at a1 HX HL
      have HM2 := Lib.hid hm2
      clear hm2
      have HA3 : Hid (∀ w' : World, Below w.heap.size w w' → w'.cell? (ad.add (k * 3)) = some (.string xs) ∧ w'.cell? ⟨(ad.add (k * 3)).block, (ad.add (k * 3)).off + 1, none⟩ = some (.slice xa m xc) ∧ w'.cell? ⟨(ad.add (k * 3)).block, (ad.add (k * 3)).off + 2, none⟩ = some (.int .i64 xy)) := Lib.hid (fun w' hb => by
        have := HA.out w' hb
        unfold AtF at this
        simp only [HM2.out] at this
        exact this)
      go_upto_region 5 with fail
      go_region_held3 (fun w' => w'.cell? (ad.add (k * 3)) = some (.string xs) ∧ w'.cell? ⟨(ad.add (k * 3)).block, (ad.add (k * 3)).off + 1, none⟩ = some (.slice xa m xc) ∧ w'.cell? ⟨(ad.add (k * 3)).block, (ad.add (k * 3)).off + 2, none⟩ = some (.int .i64 xy)) (first | exact HA3.out _ CB.out | exact HA3.out _ CB.out.drew | exact HA3.out _ (CB.out.alloc CB.out.size _) | exact HA3.out _ (CB.out.alloc CB.out.size _).drew | go_keep) (first
        | (refine step_append_row _ (by rfl) (.tmp 16) (.tmp 21) (by rfl) wr.heap.size _ 0 [] xl xa 0 m xc (by simp [Act.eval]) (by simp [Act.eval]) rfl HM2.out R1.out (HX.out _ (CB.out.trans (B1.out.mono WS.out))).bys S1.out (by have := HL.out; have := HM2.out; simp; omega) ?_; intro A6 c6 w6 r6 b6; have R6 := Lib.hid r6; have CF := Lib.hid (own_kept CF.out (B1.out.trans b6) (Nat.le_refl _)); have CM := Lib.hid (CM.out.kept (B1.out.trans b6) (Nat.le_refl _)); have CB := Lib.hid (CB.out.trans ((B1.out.trans b6).mono WS.out)); clear r6 b6)
        | (refine step_append_frow _ (by rfl) (.tmp 10) (.tmp 29) (by rfl) w.heap.size A2 c2 l' [⟨xs, ⟨A6, c6, xl⟩, xy⟩] _ k 1 1 (by simp [Act.eval]) (by simp [Act.eval]) hl2.out rfl (CF.out.alloc _) (lit_file3 _ xs A6 c6 xl xy m HM2.out) (by have := CB.out.size; simp; omega) (by have := hl2.out; simp; omega) ?_; intro A7 c7 w7 r7 b7 g7; have R7 := Lib.hid r7; have CM := Lib.hid (((CM.out.kept (below_new _ _) (Nat.le_refl _)).besideF (CF.out.alloc _) (by rw [hl2.out]; exact g7))); have CR := Lib.hid (((R6.out.kept (below_new _ _) (Nat.le_refl _)).besideF (CF.out.alloc _) (by rw [hl2.out]; exact g7))); have CB := Lib.hid ((CB.out.alloc CB.out.size _).trans b7); clear r7 b7 g7))
      go_wp2_with fail
      go_roundw
      case rel => exact ⟨k + 1, A7, c7, l' ++ [⟨xs, ⟨A6, c6, xl⟩, xy⟩], by omega, by go_num, rfl, Lib.hid (by rw [List.length_append, hl2.out]; rfl), Lib.hid (by rw [List.map_append, hr.out, List.take_add_one, HQ.out]; simp [Fl.rd]), Lib.hid (CM.out.snoc (CR.out.mono WS.out)), Lib.hid R7.out, CB⟩
      case measure => simp [intOf]; omega
    · obtain rfl : k = n := by omega
      have hr' := hr.out
      rw [List.take_of_length_le (by have := HN.out; omega)] at hr'
      have HR := Lib.hid hr'
      clear hr'
      go_wp2_with fail
      go_ret
      exact ⟨l', HR.out, hm.out, A2, c2, ret_slice hl2.out, r2.out, b2.out⟩

set_option maxRecDepth 100000 in
set_option maxHeartbeats 4000000 in
theorem refSame_wide (A A' : Option Addr) (l l' : List Fl) (n n' c c' : Nat) (w : World) (hn : l.length = n) (hn' : l'.length = n') (h : Lies w A (fvals l)) (h' : Lies w A' (fvals l')) (hi : Ins w l) (hi' : Ins w l') (hl : n ≤ 140737488355328) (hl' : n' ≤ 140737488355328) :
    Calls Try.prog 15 #[.slice A n c, .slice A' n' c'] w (Tells w (decide (l.map Fl.rd = l'.map Fl.rd))) := by
  obtain ⟨b, hb⟩ : ∃ b, decide (l.map Fl.rd = l'.map Fl.rd) = b := ⟨_, rfl⟩
  rw [hb]
  have HB := Lib.hid hb
  have HP := Lib.hid (fun (w' : World) (hb : Below w.heap.size w w') => And.intro (h.kept hb) (h'.kept hb))
  have HI := Lib.hid (fun (w' : World) (hb : Below w.heap.size w w') => And.intro (hi.kept hb) (hi'.kept hb))
  have HN := Lib.hid (And.intro hn hn')
  clear h h' hi hi' hb hn hn'
  by_cases hnn : n = n'
  · subst hnn
    go_enter Try.func15, Try.ntmps15
    go_wp2_with fail
    go_loopw [13] (fun t13 wr => ∃ k : Nat, k ≤ n ∧ t13 = .int .i64 k ∧ Hid ((l.take k).map Fl.rd = (l'.take k).map Fl.rd) ∧ Hid (Below w.heap.size w wr)) (fun t13 _ => n - (intOf t13).toNat)
    case atStart => exact ⟨0, by omega, rfl, Lib.hid rfl, Lib.hid (Below.refl _ _)⟩
    case round =>
      obtain ⟨k, hk, rfl, hr, b2⟩ := hrel
      by_cases hlt : k < n
      · have hq := List.getElem?_eq_getElem (l := l) (i := k) (by have := HN.out.1; omega)
        generalize l[k]'(by have := HN.out.1; omega) = x at hq
        have hq' := List.getElem?_eq_getElem (l := l') (i := k) (by have := HN.out.2; omega)
        generalize l'[k]'(by have := HN.out.2; omega) = y at hq'
        obtain ⟨ad, rfl, a0, a1, a2⟩ := lies_file (HP.out _ b2.out).1 hq
        obtain ⟨ad', rfl, b0, b1, b3⟩ := lies_file (HP.out _ b2.out).2 hq'
        have X := (HI.out _ b2.out).1 x (List.mem_of_getElem? hq)
        have Y := (HI.out _ b2.out).2 y (List.mem_of_getElem? hq')
        have HQ := Lib.hid (And.intro hq hq')
        clear hq hq'
        obtain ⟨xs, ⟨xa, xc, xl⟩, xy⟩ := x
        obtain ⟨ys, ⟨ya, yc, yl⟩, yy⟩ := y
        simp only at a0 a1 a2 b0 b1 b3 X Y
        have C0 := conv_drew X.bys xl.length xc rfl
        have C1 := conv_drew Y.bys yl.length yc rfl
        have HS := Lib.hid (str_of_inj X.byt Y.byt)
        clear X Y
        obtain ⟨m, hm⟩ : ∃ m, xl.length = m := ⟨_, rfl⟩
        obtain ⟨m', hm'⟩ : ∃ m, yl.length = m := ⟨_, rfl⟩
        rw [hm] at a1 C0
        rw [hm'] at b1 C1
        clear hm hm'
        by_cases e1 : xs = ys
        · subst e1
          by_cases e2 : xl = yl
          · subst e2
            by_cases e3 : xy = yy
            · subst e3
              have HR := Lib.hid (rd_same HQ.out.1 HQ.out.2 rfl hr.out)
              go_upto_region 6 with fail
              go_quiet (fail)
              obtain ⟨wq, hwq⟩ : ∃ wq, wr.drewN nq = wq := ⟨_, rfl⟩
              have BQ : Hid (Below w.heap.size w wq) := Lib.hid (hwq ▸ below_drewN b2.out nq)
              rw [hwq]
              clear hwq
              go_wp2_with fail
              go_roundw
              case rel => exact ⟨k + 1, by omega, by go_num, HR, BQ⟩
              case measure => simp [intOf]; omega
            · have d3 : (xy == yy) = false := by simpa using e3
              have HV : Hid (b = false) := Lib.hid (by rw [← HB.out]; exact rd_differ HQ.out.1 HQ.out.2 (fun e => e3 (congrArg (fun p => p.2.2) e)))
              clear e3
              go_upto_region 6 with fail
              go_quiet (fail)
              obtain ⟨wq, hwq⟩ : ∃ wq, wr.drewN nq = wq := ⟨_, rfl⟩
              have BQ : Hid (Below w.heap.size w wq) := Lib.hid (hwq ▸ below_drewN b2.out nq)
              rw [hwq]
              clear hwq
              go_wp2_with fail
              go_ret
              rw [HV.out]
              exact ⟨rfl, BQ.out⟩
          · have d2 : ((strOfNums xl).toList == (strOfNums yl).toList) = false := toList_ne (fun e => e2 (HS.out.1 e))
            have HV : Hid (b = false) := Lib.hid (by rw [← HB.out]; exact rd_differ HQ.out.1 HQ.out.2 (fun e => e2 (congrArg (fun p => p.2.1) e)))
            clear e2
            go_upto_region 6 with fail
            go_quiet (fail)
            obtain ⟨wq, hwq⟩ : ∃ wq, wr.drewN nq = wq := ⟨_, rfl⟩
            have BQ : Hid (Below w.heap.size w wq) := Lib.hid (hwq ▸ below_drewN b2.out nq)
            rw [hwq]
            clear hwq
            go_wp2_with fail
            go_ret
            rw [HV.out]
            exact ⟨rfl, BQ.out⟩
        · have d1 : (xs.toList == ys.toList) = false := toList_ne e1
          have HV : Hid (b = false) := Lib.hid (by rw [← HB.out]; exact rd_differ HQ.out.1 HQ.out.2 (fun e => e1 (congrArg (fun p => p.1) e)))
          clear e1
          go_upto_region 6 with fail
          go_quiet (fail)
          obtain ⟨wq, hwq⟩ : ∃ wq, wr.drewN nq = wq := ⟨_, rfl⟩
          have BQ : Hid (Below w.heap.size w wq) := Lib.hid (hwq ▸ below_drewN b2.out nq)
          rw [hwq]
          clear hwq
          go_wp2_with fail
          go_ret
          rw [HV.out]
          exact ⟨rfl, BQ.out⟩
      · obtain rfl : k = n := by omega
        have hr' := hr.out
        rw [List.take_of_length_le (by have := HN.out.1; omega), List.take_of_length_le (by have := HN.out.2; omega)] at hr'
        have HV : Hid (b = true) := Lib.hid (by rw [← HB.out]; simpa using hr')
        clear hr' hr
        go_wp2_with fail
        go_ret
        rw [HV.out]
        exact ⟨rfl, b2.out⟩
  · have d0 : ((n : Int) != n') = true := by simp; omega
    have HV : Hid (b = false) := Lib.hid (by rw [← HB.out]; simp; intro e; have := congrArg List.length e; simp at this; have := HN.out; omega)
    go_enter Try.func15, Try.ntmps15
    go_wp2_with fail
    go_ret
    rw [HV.out]
    exact ⟨rfl, Below.refl _ _⟩

theorem sameB_any (A C : Option Addr) (L M : List Int) (n m c d : Nat) (w : World) (hn : L.length = n) (hm : M.length = m) (h : Bys w A L) (g : Bys w C M) (hL : Byt L) (hM : Byt M) :
    Calls Try.prog 18 #[.slice A n c, .slice C m d] w fun e w' => e = .returned (.bool (decide (L = M))) ∧ w = w' := by
  have k1 := conv_any h n c hn
  have k2 := conv_any g m d hm
  have HS := Lib.hid (str_of_inj hL hM)
  clear h g hn hm
  by_cases e : L = M
  · subst e
    go_enter Try.func18, Try.ntmps18
    go_wp2
    go_ret
    exact ⟨by simp, rfl⟩
  · have d0 : ((strOfNums L).toList == (strOfNums M).toList) = false := toList_ne (fun e2 => e (HS.out.1 e2))
    have HE : Hid (decide (L = M) = false) := Lib.hid (decide_eq_false e)
    clear e
    go_enter Try.func18, Try.ntmps18
    go_wp2
    go_ret
    rw [HE.out]
    exact ⟨rfl, rfl⟩

set_option maxRecDepth 100000 in
set_option maxHeartbeats 4000000 in
theorem plan_any (ops room : Int) (A : Option Addr) (keep : List Int) (n c : Nat) (w : World) (hn : keep.length = n) (hk : Ints w A keep) (hl : n * 8 ≤ 140737488355328) :
    Calls Try.prog 12 #[.agg #[.int .i64 ops, .int .i64 room, .slice A n c]] w fun e w' => ∃ A' c', e = .returned (.agg #[.int .i64 ops, .int .i64 room, .slice A' n c']) ∧ Irow w' w.heap.size A' c' keep ∧ Below w.heap.size w w' := by
  have HK := Lib.hid (fun (W : World) (hb : Below w.heap.size w W) => (Lies.kept hk hb : Ints W A keep))
  have HN := Lib.hid (And.intro hn hl)
  clear hn hk hl
  go_enter Try.func12, Try.ntmps12
  go_upto_region 1 with fail
  obtain ⟨w2, hw2⟩ : ∃ w2, ((w.alloc (.cells #[.int .i64 ops, .int .i64 room, .slice A n c] 25)).alloc (.cells #[.int .i64 0, .int .i64 0, .slice none 0 0] 25)) = w2 := ⟨_, rfl⟩
  have HB2 : Hid (Below w.heap.size w w2) := Lib.hid (hw2 ▸ (below_new _ _).alloc (by simp) _)
  have HS2 : Hid (w2.heap.size = w.heap.size + 2) := Lib.hid (by rw [← hw2]; simp)
  have HR0 : Hid (w2.heap[w.heap.size]? = some (.cells #[.int .i64 ops, .int .i64 room, .slice A n c] 25 (0, 0))) := Lib.hid (by
    rw [← hw2, RowKit.Below.heap_alloc _ _ _ (by simp)]
    exact heap_alloc_new w _)
  have HR1 : Hid (w2.heap[w.heap.size + 1]? = some (.cells #[.int .i64 0, .int .i64 0, .slice none 0 0] 25 (0, 0))) := Lib.hid (by
    have := heap_alloc_new (w.alloc (.cells #[.int .i64 ops, .int .i64 room, .slice A n c] 25)) (.cells #[.int .i64 0, .int .i64 0, .slice none 0 0] 25)
    rw [hw2, show (w.alloc (.cells #[.int .i64 ops, .int .i64 room, .slice A n c] 25)).heap.size = w.heap.size + 1 by simp] at this
    exact this)
  rw [hw2]
  clear hw2
  have HCC := Lib.hid (fun (W : World) (hb : Below w2.heap.size w2 W) => (show W.cell? ⟨w.heap.size, 0, none⟩ = some (.int .i64 ops) ∧ W.cell? ⟨w.heap.size, 1, none⟩ = some (.int .i64 room) ∧ W.cell? ⟨w.heap.size, 2, none⟩ = some (.slice A n c) ∧ W.frozen? ⟨w.heap.size, 2, none⟩ = false ∧ W.heap[w.heap.size]? = some (.cells #[.int .i64 ops, .int .i64 room, .slice A n c] 25 (0, 0)) ∧ W.heap[w.heap.size + 1]? = some (.cells #[.int .i64 0, .int .i64 0, .slice none 0 0] 25 (0, 0)) from by
    have h0 := (hb.block w.heap.size (by have := HS2.out; omega)).trans HR0.out
    have h1 := (hb.block (w.heap.size + 1) (by have := HS2.out; omega)).trans HR1.out
    refine ⟨?_, ?_, ?_, ?_, h0, h1⟩ <;> simp [World.cell?, World.frozen?, h0]))
  obtain ⟨z0, z1, z2, z3, -, -⟩ := HCC.out _ (below_new w2 (.cells #[] 3))
  have RI := Lib.hid (irow_made w2)
  have BI : Hid (Below w2.heap.size w2 (w2.alloc (.cells #[] 3))) := Lib.hid (below_new _ _)
  go_upto_region 2 with (at_builtin; refine wpList_append_irow _ rfl (.tmp 3) (.tmp 5) rfl w2.heap.size _ 0 keep A n c rfl rfl HN.out.1 RI.out (HK.out _ (HB2.out.trans (BI.out.mono HB2.out.size))) (by simp) (by have := HN.out.2; omega) ?_; intro A6 c6 w6 r6 b6; have R6 := Lib.hid r6; have B6 : Hid (Below w2.heap.size w2 w6) := Lib.hid (BI.out.trans b6); obtain ⟨y0, y1, y2, y3, y4, y5⟩ := HCC.out _ B6.out; clear r6 b6)
  have HX0 : Hid ((w6.setCell ⟨w.heap.size, 2, none⟩ (.slice A6 n c6)).heap[w.heap.size]? = some (.cells #[.int .i64 ops, .int .i64 room, .slice A6 n c6] 25 (0, 0))) := Lib.hid (by simp [World.setCell, Array.getElem?_modify, y4])
  have HX1 : Hid ((w6.setCell ⟨w.heap.size, 2, none⟩ (.slice A6 n c6)).heap[w.heap.size + 1]? = some (.cells #[.int .i64 0, .int .i64 0, .slice none 0 0] 25 (0, 0))) := Lib.hid ((Below.heap_setCell w6 ⟨w.heap.size, 2, none⟩ _ _ (by simp)).trans y5)
  have HXB : Hid (Below w.heap.size w (w6.setCell ⟨w.heap.size, 2, none⟩ (.slice A6 n c6))) := Lib.hid ((HB2.out.trans (B6.out.mono HB2.out.size)).setCell (Nat.le_refl _) _)
  have HXR : Hid (Irow (w6.setCell ⟨w.heap.size, 2, none⟩ (.slice A6 n c6)) w2.heap.size A6 c6 keep) := Lib.hid (by
    have := R6.out
    unfold Irow at this ⊢
    refine own_block this (fun ad ha => Below.heap_setCell w6 ⟨w.heap.size, 2, none⟩ _ _ (fun e => ?_))
    have h1 := (own_in this ad ha).1
    have := HS2.out
    simp only at e
    omega)
  clear y0 y1 y2 y3 y4 y5
  generalize (w6.setCell ⟨w.heap.size, 2, none⟩ (.slice A6 n c6)) = w7 at HX0 HX1 HXB HXR ⊢
  have x0 : w7.cell? ⟨w.heap.size, 0, none⟩ = some (.int .i64 ops) := by simp [World.cell?, HX0.out]
  have x1 : w7.cell? ⟨w.heap.size, 1, none⟩ = some (.int .i64 room) := by simp [World.cell?, HX0.out]
  have x2 : w7.cell? ⟨w.heap.size, 2, none⟩ = some (.slice A6 n c6) := by simp [World.cell?, HX0.out]
  have v0 : w7.cell? ⟨w.heap.size + 1, 0, none⟩ = some (.int .i64 0) := by simp [World.cell?, HX1.out]
  have v1 : w7.cell? ⟨w.heap.size + 1, 1, none⟩ = some (.int .i64 0) := by simp [World.cell?, HX1.out]
  have v2 : w7.cell? ⟨w.heap.size + 1, 2, none⟩ = some (.slice none 0 0) := by simp [World.cell?, HX1.out]
  have u0 : w7.frozen? ⟨w.heap.size + 1, 0, none⟩ = false := by simp [World.frozen?, HX1.out]
  have u1 : w7.frozen? ⟨w.heap.size + 1, 1, none⟩ = false := by simp [World.frozen?, HX1.out]
  have u2 : w7.frozen? ⟨w.heap.size + 1, 2, none⟩ = false := by simp [World.frozen?, HX1.out]
  go_wp2_with fail
  try simp only [Exit.inBlock, Exit.then]
  refine bodyPost_ret (v := .agg #[.int .i64 ops, .int .i64 room, .slice A6 n c6]) ?_ rfl ?_
  · unfold results
    go_simp
  · refine ⟨A6, c6, rfl, ?_, ((HXB.out.setCell (Nat.le_succ _) _).setCell (Nat.le_succ _) _).setCell (Nat.le_succ _) _⟩
    have h8 := HXR.out
    refine own_mono (C := w.heap.size) (own_block h8 (fun ad ha => ?_)) HB2.out.size
    have h1 := (own_in h8 ad ha).1
    have := HS2.out
    have hne : ad.block ≠ w.heap.size + 1 := by omega
    exact (Below.heap_setCell _ ⟨w.heap.size + 1, 2, none⟩ _ _ hne).trans ((Below.heap_setCell _ ⟨w.heap.size + 1, 1, none⟩ _ _ hne).trans (Below.heap_setCell _ ⟨w.heap.size + 1, 0, none⟩ _ _ hne))

end Go.Proofs.Ytjacjafpeajhaaa
