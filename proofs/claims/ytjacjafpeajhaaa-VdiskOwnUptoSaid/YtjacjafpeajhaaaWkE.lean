/-
  Walks: are files alike, by the document.
-/
import Derived.Test.YtjacjafpeajhaaaWkD
namespace Go.Proofs.Ytjacjafpeajhaaa
open Go.RowKit

/-- It answers a bool, and makes new memory alone. -/
def Tells (w : World) (b : Bool) (e : Ending) (w' : World) : Prop := e = .returned (.bool b) ∧ Below w.heap.size w w'
theorem conv_drew {w : World} {A : Option Addr} {L : List Int} (h : Bys w A L) (n c : Nat) (hn : L.length = n) : ∀ k, (convert 38 9 (.slice A n c)).run Try.prog (w.drewN k) = .ok (.string (strOfNums L)) (w.drewN k) := fun k => conv_any (h.kept (below_drewN (Below.refl _ w) k)) n c hn
theorem toList_ne {s t : ByteArray} (h : s ≠ t) : (s.toList == t.toList) = false := by
  rw [ByteArray.toList_eq, ByteArray.toList_eq]
  obtain ⟨⟨l⟩⟩ := s
  obtain ⟨⟨m⟩⟩ := t
  simpa using h
theorem rd_differ {l l' : List Fl} {k : Nat} {x y : Fl} (hx : l[k]? = some x) (hy : l'[k]? = some y) (h : x.rd ≠ y.rd) : decide (l.map Fl.rd = l'.map Fl.rd) = false := by
  simp only [decide_eq_false_iff_not]
  intro e
  have h2 : (l.map Fl.rd)[k]? = (l'.map Fl.rd)[k]? := by rw [e]
  rw [List.getElem?_map, List.getElem?_map, hx, hy] at h2
  exact h (by simpa using h2)
theorem rd_same {l l' : List Fl} {k : Nat} {x y : Fl} (hx : l[k]? = some x) (hy : l'[k]? = some y) (h : x.rd = y.rd) (hr : (l.take k).map Fl.rd = (l'.take k).map Fl.rd) : (l.take (k + 1)).map Fl.rd = (l'.take (k + 1)).map Fl.rd := by
  rw [List.take_add_one, List.take_add_one, hx, hy, List.map_append, List.map_append, hr]
  simp [h]

set_option maxRecDepth 100000 in
set_option maxHeartbeats 4000000 in
theorem refSame_any (A A' : Option Addr) (l l' : List Fl) (n n' c c' : Nat) (w : World) (hn : l.length = n) (hn' : l'.length = n') (h : Lies w A (fvals l)) (h' : Lies w A' (fvals l')) (hi : Ins w l) (hi' : Ins w l') (hl : n ≤ 1048576) (hl' : n' ≤ 1048576) :
    Calls Try.prog 15 #[.slice A n c, .slice A' n' c'] w (Tells w (decide (l.map Fl.rd = l'.map Fl.rd))) := by
  obtain ⟨b, hb⟩ : ∃ b, decide (l.map Fl.rd = l'.map Fl.rd) = b := ⟨_, rfl⟩
  rw [hb]
  have HB := Lib.hid hb
  have HP := Lib.hid (fun (w' : World) (hb : Below w.heap.size w w') => And.intro (h.kept hb) (h'.kept hb))
  have HI := Lib.hid (fun (w' : World) (hb : Below w.heap.size w w') => And.intro (hi.kept hb) (hi'.kept hb))
  have HN := Lib.hid (And.intro hn hn')
  clear h h' hi hi' hb hn hn'
  by_cases hnn : n = n'
  · subst hnn
    go_enter Try.func15, Try.ntmps15
    go_wp2_with fail
    go_loopw [13] (fun t13 wr => ∃ k : Nat, k ≤ n ∧ t13 = .int .i64 k ∧ Hid ((l.take k).map Fl.rd = (l'.take k).map Fl.rd) ∧ Hid (Below w.heap.size w wr)) (fun t13 _ => n - (intOf t13).toNat)
    case atStart => exact ⟨0, by omega, rfl, Lib.hid rfl, Lib.hid (Below.refl _ _)⟩
    case round =>
      obtain ⟨k, hk, rfl, hr, b2⟩ := hrel
      by_cases hlt : k < n
      · have hq := List.getElem?_eq_getElem (l := l) (i := k) (by have := HN.out.1; omega)
        generalize l[k]'(by have := HN.out.1; omega) = x at hq
        have hq' := List.getElem?_eq_getElem (l := l') (i := k) (by have := HN.out.2; omega)
        generalize l'[k]'(by have := HN.out.2; omega) = y at hq'
        obtain ⟨ad, rfl, a0, a1, a2⟩ := lies_file (HP.out _ b2.out).1 hq
        obtain ⟨ad', rfl, b0, b1, b3⟩ := lies_file (HP.out _ b2.out).2 hq'
        have X := (HI.out _ b2.out).1 x (List.mem_of_getElem? hq)
        have Y := (HI.out _ b2.out).2 y (List.mem_of_getElem? hq')
        have HQ := Lib.hid (And.intro hq hq')
        clear hq hq'
        obtain ⟨xs, ⟨xa, xc, xl⟩, xy⟩ := x
        obtain ⟨ys, ⟨ya, yc, yl⟩, yy⟩ := y
        simp only at a0 a1 a2 b0 b1 b3 X Y
        have C0 := conv_drew X.bys xl.length xc rfl
        have C1 := conv_drew Y.bys yl.length yc rfl
        have HS := Lib.hid (str_of_inj X.byt Y.byt)
        clear X Y
        obtain ⟨m, hm⟩ : ∃ m, xl.length = m := ⟨_, rfl⟩
        obtain ⟨m', hm'⟩ : ∃ m, yl.length = m := ⟨_, rfl⟩
        rw [hm] at a1 C0
        rw [hm'] at b1 C1
        clear hm hm'
        by_cases e1 : xs = ys
        · subst e1
          by_cases e2 : xl = yl
          · subst e2
            by_cases e3 : xy = yy
            · subst e3
              have HR := Lib.hid (rd_same HQ.out.1 HQ.out.2 rfl hr.out)
              go_upto_region 6 with fail
              go_quiet (fail)
              obtain ⟨wq, hwq⟩ : ∃ wq, wr.drewN nq = wq := ⟨_, rfl⟩
              have BQ : Hid (Below w.heap.size w wq) := Lib.hid (hwq ▸ below_drewN b2.out nq)
              rw [hwq]
              clear hwq
              go_wp2_with fail
              go_roundw
              case rel => exact ⟨k + 1, by omega, by go_num, HR, BQ⟩
              case measure => simp [intOf]; omega
            · have d3 : (xy == yy) = false := by simpa using e3
              have HV : Hid (b = false) := Lib.hid (by rw [← HB.out]; exact rd_differ HQ.out.1 HQ.out.2 (fun e => e3 (congrArg (fun p => p.2.2) e)))
              clear e3
              go_upto_region 6 with fail
              go_quiet (fail)
              obtain ⟨wq, hwq⟩ : ∃ wq, wr.drewN nq = wq := ⟨_, rfl⟩
              have BQ : Hid (Below w.heap.size w wq) := Lib.hid (hwq ▸ below_drewN b2.out nq)
              rw [hwq]
              clear hwq
              go_wp2_with fail
              go_ret
              rw [HV.out]
              exact ⟨rfl, BQ.out⟩
          · have d2 : ((strOfNums xl).toList == (strOfNums yl).toList) = false := toList_ne (fun e => e2 (HS.out.1 e))
            have HV : Hid (b = false) := Lib.hid (by rw [← HB.out]; exact rd_differ HQ.out.1 HQ.out.2 (fun e => e2 (congrArg (fun p => p.2.1) e)))
            clear e2
            go_upto_region 6 with fail
            go_quiet (fail)
            obtain ⟨wq, hwq⟩ : ∃ wq, wr.drewN nq = wq := ⟨_, rfl⟩
            have BQ : Hid (Below w.heap.size w wq) := Lib.hid (hwq ▸ below_drewN b2.out nq)
            rw [hwq]
            clear hwq
            go_wp2_with fail
            go_ret
            rw [HV.out]
            exact ⟨rfl, BQ.out⟩
        · have d1 : (xs.toList == ys.toList) = false := toList_ne e1
          have HV : Hid (b = false) := Lib.hid (by rw [← HB.out]; exact rd_differ HQ.out.1 HQ.out.2 (fun e => e1 (congrArg (fun p => p.1) e)))
          clear e1
          go_upto_region 6 with fail
          go_quiet (fail)
          obtain ⟨wq, hwq⟩ : ∃ wq, wr.drewN nq = wq := ⟨_, rfl⟩
          have BQ : Hid (Below w.heap.size w wq) := Lib.hid (hwq ▸ below_drewN b2.out nq)
          rw [hwq]
          clear hwq
          go_wp2_with fail
          go_ret
          rw [HV.out]
          exact ⟨rfl, BQ.out⟩
      · obtain rfl : k = n := by omega
        have hr' := hr.out
        rw [List.take_of_length_le (by have := HN.out.1; omega), List.take_of_length_le (by have := HN.out.2; omega)] at hr'
        have HV : Hid (b = true) := Lib.hid (by rw [← HB.out]; simpa using hr')
        clear hr' hr
        go_wp2_with fail
        go_ret
        rw [HV.out]
        exact ⟨rfl, b2.out⟩
  · have d0 : ((n : Int) != n') = true := by simp; omega
    have HV : Hid (b = false) := Lib.hid (by rw [← HB.out]; simp; intro e; have := congrArg List.length e; simp at this; have := HN.out; omega)
    go_enter Try.func15, Try.ntmps15
    go_wp2_with fail
    go_ret
    rw [HV.out]
    exact ⟨rfl, Below.refl _ _⟩

end Go.Proofs.Ytjacjafpeajhaaa
