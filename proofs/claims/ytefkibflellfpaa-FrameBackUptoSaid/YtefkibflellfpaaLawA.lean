/-
  The laws FrameWrites, FrameSums.
-/
import Derived.Test.YtefkibflellfpaaWkJ
import Derived.Laws.OwnMore
namespace Go.Proofs.Ytefkibflellfpaa
open Go.RowKit

def AllTrue (w : World) (e : Ending) (w' : World) : Prop := e = .returned (.bool true) ∧ Below w.heap.size w w'
theorem wakes_on (w0 w : World) (h : Below w0.heap.size w0 w) : Calls Try.prog 9 #[] w fun e w' => e = .returned (.bool true) ∧ Hid (Below w0.heap.size w0 w') :=
  (wakes_any w).mono fun _ _ ⟨h1, h2⟩ => ⟨h1, Lib.hid (below_then h h2)⟩
/-- A copy of bytes, on the way. -/
theorem own_on (w0 w : World) (A : Option Addr) (L : List Int) (n c : Nat) (hw : Below w0.heap.size w0 w) (hn : L.length = n) (h : Bys w A L) (hl : n ≤ 140737488355328) :
    Calls Try.prog 11 #[.slice A n c] w fun e w' => ∃ A' c', e = .returned (.slice A' n c') ∧ Hid (Row w' w.heap.size A' c' L) ∧ Hid (Below w.heap.size w w') ∧ Hid (Below w0.heap.size w0 w') := by
  subst hn
  refine (own_any A L _ c w rfl h hl).mono ?_
  rintro e w' ⟨A', c', rfl, h1, h2⟩
  exact ⟨A', c', rfl, Lib.hid h1, Lib.hid h2, Lib.hid (below_then hw h2)⟩
/-- A payload, put, on the way. -/
theorem put_on (w0 w : World) (A : Option Addr) (L : List Int) (n c : Nat) (p : List Int × Int) (hp : putP L = p) (x : Nat) (hx : p.1.length = x) (hw : Below w0.heap.size w0 w) (h : In w A L n c) :
    Calls Try.prog 19 #[.slice A n c] w fun e w' => ∃ A' c', e = .returned (.tuple #[.slice A' x c', .int .i64 p.2]) ∧ Hid (Row w' w.heap.size A' c' p.1) ∧ Hid (Below w.heap.size w w') ∧ Hid (Below w0.heap.size w0 w') := by
  subst hp
  subst hx
  refine (put_any A L n c w h).mono ?_
  rintro e w' ⟨A', c', rfl, h1, h2⟩
  exact ⟨A', c', rfl, Lib.hid h1, Lib.hid h2, Lib.hid (below_then hw h2)⟩
theorem refPut_on (w0 w : World) (A : Option Addr) (L : List Int) (n c : Nat) (p : List Int × Int) (hp : putP L = p) (x : Nat) (hx : p.1.length = x) (hw : Below w0.heap.size w0 w) (h : In w A L n c) :
    Calls Try.prog 20 #[.slice A n c] w fun e w' => ∃ A' c', e = .returned (.tuple #[.slice A' x c', .int .i64 p.2]) ∧ Hid (Row w' w.heap.size A' c' p.1) ∧ Hid (Below w.heap.size w w') ∧ Hid (Below w0.heap.size w0 w') := by
  subst hp
  subst hx
  refine (refPut_any A L n c w h).mono ?_
  rintro e w' ⟨A', c', rfl, h1, h2⟩
  exact ⟨A', c', rfl, Lib.hid h1, Lib.hid h2, Lib.hid (below_then hw h2)⟩

/-- A slice of noughts, made. -/
theorem wpList_make_noughts (w : World) {ops : Array Oper} {rest : List Oper} {o : Oper} {a : Act} {Q : Exit → Act → World → Prop}
    (hg : o.guard = none) (l c : Operand) (hop : o.op = Op.makeSlice 22 l c) (n : Nat) (hl : a.eval l = .int .i64 (n : Int)) (hc : a.eval c = .int .i64 (n : Int)) (hn : n ≤ 281474976710656)
    (k : ∀ Z w', Z.length = n → Byt Z → Row w' w.heap.size (some ⟨w.heap.size, 0, none⟩) n Z → Below w.heap.size w w' → wpList Try.prog ops Q rest (a.put o.dst (.slice (some ⟨w.heap.size, 0, none⟩) n n)) w') :
    wpList Try.prog ops Q (o :: rest) a w := by
  obtain ⟨i, hi, hz0, hz1, hz2⟩ := info_parts info5
  refine wpList_plain hg fun K hK' => ?_
  have hrun := run_make (P := Try.prog) w 22 5 i (.int .u8 0) Try.underlying22 hi hz0 .i64 .i64 (n : Int) (n : Int) (by omega) (by omega) (by rw [hz2]; omega) (by omega)
  have e : madeCells (Value.int .u8 0).cells ((n : Int).toNat * i.size) = (vals (List.replicate n 0)).toArray := by
    rw [hz1, Int.toNat_natCast, Nat.mul_one]
    refine Array.ext' ?_
    show (madeCells #[Value.int .u8 0] n).toList = _
    rw [toList_madeCells_one]
    simp [vals]
  rw [e] at hrun
  have hlen : (List.replicate n (0 : Int)).length = n := List.length_replicate
  have hr := (mine_new w (List.replicate n 0) _ rfl (by rw [hlen]; unfold maxLen; omega)).row
  rw [hlen] at hr
  have k' := k (List.replicate n 0) _ hlen (fun x hx => by obtain ⟨_, rfl⟩ := List.mem_replicate.1 hx; omega) hr (below_new w _)
  unfold Oper.wp
  simp only [Int.toNat_natCast] at hrun k'
  simp [execOp, hop, hl, hc, hrun, Result.andThen]
  exact hK' _ _ k'

theorem put_short {L : List Int} {p : List Int × Int} (hp : putP L = p) : p.1.length ≤ 2097160 := by
  subst hp
  unfold putP
  split
  · simp
  · simp only [putL_len]
    omega

set_option maxRecDepth 100000 in
set_option maxHeartbeats 2000000 in
theorem writes_law (A : Option Addr) (L : List Int) (n c : Nat) (more : Int) (w : World) (h : In w A L n c) (hs : n ≤ 140737488355328) :
    Calls Try.prog 5 #[.slice A n c, .int .i64 more] w (AllTrue w) := by
  obtain ⟨p, hp⟩ : ∃ p, putP L = p := ⟨_, rfl⟩
  obtain ⟨x, hx⟩ : ∃ x, p.1.length = x := ⟨_, rfl⟩
  have HP := Lib.hid hp
  have HX := Lib.hid hx
  have HI := Lib.hid h
  have HS := Lib.hid hs
  clear h hp hx hs
  go_enter Try.func5, Try.ntmps5
  go_upto_region 7 with (first
    | (go_at_call 9; refine (wakes_on w _ (Below.refl _ _)).mono ?_; rintro e1 w1 ⟨rfl, b1⟩)
    | (go_at_call 11; refine (own_on w _ A L n c b1.out HI.out.len (HI.out.bys.kept b1.out) HS.out).mono ?_; rintro e2 w2 ⟨A2, c2, rfl, r2, k2, b2⟩)
    | (go_at_call 19; refine (put_on w _ A2 L n c2 p HP.out x HX.out b2.out (r2.out.in_n HI.out.byt HI.out.len)).mono ?_; rintro e3 w3 ⟨A3, c3, rfl, r3, k3, b3⟩)
    | (go_at_call 20; refine (refPut_on w _ A L n c p HP.out x HX.out b3.out (HI.out.kept b3.out)).mono ?_; rintro e4 w4 ⟨A4, c4, rfl, r4, k4, b4⟩; have r5 := Lib.hid (r3.out.kept k4.out (Nat.le_refl _)))
    | (go_at_call 17; refine (same_any A3 A4 p.1 x x c3 c4 _ HX.out HX.out r5.out.lies r4.out.lies).mono ?_; rintro e5 w5 ⟨rfl, hw⟩; subst hw))
  have B4 := Lib.hid b4.out
  clear b1 r2 k2 b2 r3 k3 b3 r4 k4 b4 r5
  by_cases hm : (bits .and .i64 more 63 == 1) = true
  · go_wp2_with (first
      | (at_make; refine wpList_make_noughts _ rfl _ _ rfl 2097153 rfl rfl (by decide) ?_; intro Z w5 z1 z2 z3 z4; have B5 := Lib.hid (below_then B4.out z4); have IZ := Lib.hid (z3.in_n z2 z1); have PZ := Lib.hid (putP_long (p := Z) (by omega)); clear z1 z2 z3 z4)
      | (go_at_call 19; refine (put_on w _ _ Z 2097153 2097153 ([], 3) PZ.out 0 rfl B5.out IZ.out).mono ?_; rintro e6 w6 ⟨A6, c6, rfl, r6, k6, b6⟩))
    go_ret
    exact ⟨by simp, b6.out⟩
  · have hm' : (bits .and .i64 more 63 == 1) = false := by simpa using hm
    clear hm
    go_wp2_with fail
    go_ret
    exact ⟨rfl, B4.out⟩

end Go.Proofs.Ytefkibflellfpaa
