/-
  Walks: entries cut in pieces. Walks: lists made one, and cut. Walks: the document's lists that are made one, and cut. Walks: the document's Run. Walks: lists that are alike; the law's copies of lists.
-/
import Derived.Test.YtcffpkflijpdjaaCJ11
set_option linter.unusedSimpArgs false
set_option linter.unusedVariables false
namespace Go.Proofs.Ytcffpkflijpdjaa
open Go.RowKit
/-- Pieces whose rows are the call's own, their entries some of these. -/
def Pcs (w : World) (B : Nat) (l : List En) (T : List Gl) : Prop := ∀ g ∈ T, Erow w B g.a g.c g.l ∧ ∀ q ∈ g.l, q ∈ l
theorem Pcs.nil (w : World) (B : Nat) (l : List En) : Pcs w B l [] := fun _ h => by cases h
theorem Pcs.kept {w w' : World} {B C : Nat} {l : List En} {T : List Gl} (h : Pcs w B l T) (hb : Below C w w') (hC : w.heap.size ≤ C) : Pcs w' B l T := fun g hg => ⟨(h g hg).1.kept hb hC, (h g hg).2⟩
theorem Pcs.mono {w : World} {B C : Nat} {l : List En} {T : List Gl} (h : Pcs w B l T) (hC : C ≤ B) : Pcs w C l T := fun g hg => ⟨(h g hg).1.mono hC, (h g hg).2⟩
theorem Pcs.besideG {w w' : World} {B D d : Nat} {C : Option Addr} {l : List En} {T U : List Gl} (h : Pcs w B l T) (hs : Grow w D C d U) (hg : w.grownBy w' (Value.slice C U.length d).ownBlock) : Pcs w' B l T := fun g hgm => ⟨own_apart (h g hgm).1 hs (by decide) hg, (h g hgm).2⟩
theorem Pcs.snoc {w : World} {B : Nat} {l : List En} {T : List Gl} {g : Gl} (h : Pcs w B l T) (h1 : Erow w B g.a g.c g.l) (h2 : ∀ q ∈ g.l, q ∈ l) : Pcs w B l (T ++ [g]) := fun x hx => by
  rcases List.mem_append.1 hx with e | e
  · exact h x e
  · rw [List.mem_singleton.1 e]; exact ⟨h1, h2⟩
/-- What cut answers. -/
def Cut (z : Int) (l : List En) (w : World) (e : Ending) (w' : World) : Prop := ∃ (T : List Gl) (A' : Option Addr) (j c' : Nat), e = .returned (.slice A' j c') ∧ T.length = j ∧ fl T = cutC z (ers l) ∧ Pcs w' w.heap.size l T ∧ Grow w' w.heap.size A' c' T ∧ Below w.heap.size w w'
set_option maxRecDepth 100000 in
set_option maxHeartbeats 8000000 in
theorem cut_any (A : Option Addr) (l : List En) (n c : Nat) (z : Int) (w : World) (hn : l.length = n) (h : Lies w A (evals l)) (hi : EIns w l) (hc : n ≤ c) (hl : n * 64 ≤ 140737488351232) (hz : 1 ≤ z) :
    Calls Try.prog 65 #[.slice A n c, .int .i64 z] w (Cut z l w) := by
  have HP := Lib.hid (fun (w' : World) (hb : Below w.heap.size w w') => h.kept hb)
  have HI := Lib.hid (fun (w' : World) (hb : Below w.heap.size w w') => hi.kept hb)
  have HN := Lib.hid hn
  have HC := Lib.hid hc
  have HL9 := Lib.hid hl
  have HZ := Lib.hid hz
  clear h hi hn hc hl hz
  go_enter Try.func65, Try.ntmps65
  go_wp2_with fail
  go_loopw [5, 6, 12] (fun t5 t6 t12 wr => ∃ (k f j : Nat) (A2 : Option Addr) (c2 : Nat) (T : List Gl), k ≤ n ∧ t12 = .int .i64 k ∧ t6 = .int .i64 f ∧ t5 = .slice A2 j c2 ∧ Hid (T.length = j ∧ j ≤ k ∧ f ≤ k) ∧ Hid (k < n → fl T = (goC z ((ers l).take (k + 1))).1 ∧ (goC z ((ers l).take (k + 1))).2 = ((ers l).take (k + 1)).drop f) ∧ Hid (k = n → fl T = cutC z (ers l)) ∧ Hid (Pcs wr w.heap.size l T) ∧ Hid (Grow wr w.heap.size A2 c2 T) ∧ Hid (Below w.heap.size w wr)) (fun _ _ t12 _ => n - (intOf t12).toNat)
  case atStart =>
    refine ⟨0, 0, 0, none, 0, [], by omega, rfl, rfl, rfl, Lib.hid ⟨rfl, Nat.le_refl _, Nat.le_refl _⟩, Lib.hid (fun h => ?_), Lib.hid (fun h => ?_), Lib.hid (Pcs.nil _ _ _), Lib.hid (Grow.nil _ _), Lib.hid (Below.refl _ _)⟩
    · have hq := List.getElem?_eq_getElem (l := l) (i := 0) (by have := HN.out; omega)
      rw [goC_one HZ.out (ers_get hq)]
      have e : (ers l).take 1 = [(l[0]'(by have := HN.out; omega)).rd] := by
        have := List.take_add_one (l := ers l) (i := 0)
        rw [ers_get hq] at this
        simpa using this
      exact ⟨rfl, by rw [e]; rfl⟩
    · have e : l = [] := List.eq_nil_of_length_eq_zero (by have := HN.out; omega)
      rw [e]
      rfl
  case round =>
    obtain ⟨k, f, j, A2, c2, T, hk, rfl, rfl, rfl, hj, hr, hr2, hm, r2, b2⟩ := hrel
    by_cases hlt : k < n
    · have hq := List.getElem?_eq_getElem (l := l) (i := k) (by have := HN.out; omega)
      generalize l[k]'(by have := HN.out; omega) = x at hq
      obtain ⟨ad, rfl, a0, a1, a2, a3⟩ := lies_entry (HP.out _ b2.out) hq
      have hmem := List.mem_of_getElem? hq
      have HX := Lib.hid (fun (w' : World) (hb : Below w.heap.size w w') => HI.out w' hb x hmem)
      have HQ := Lib.hid (ers_get hq)
      have HR1 := Lib.hid (hr.out hlt)
      obtain ⟨m, hm2⟩ : ∃ m, x.k.l.length = m := ⟨_, rfl⟩
      obtain ⟨zv, hz2⟩ : ∃ z, x.v.l.length = z := ⟨_, rfl⟩
      rw [hm2] at a0
      rw [hz2] at a3
      have HM2 := Lib.hid (And.intro hm2 hz2)
      have k0 : (k : Int) < n := by omega
      have WS : Hid (w.heap.size ≤ wr.heap.size) := Lib.hid b2.out.size
      have w1 : wrap64 ((k : Int) + 1) = (k : Int) + 1 := by have := HL9.out; unfold wrap64; omega
      have w2 : IntKind.i64.wrap ((k : Int) + 1) = (k : Int) + 1 := by have := HL9.out; rw [IntKind.wrap_i64]; omega
      have hfk := hj.out.2.2
      have w3 : wrap64 ((k : Int) + 1 - f) = (k : Int) + 1 - f := by have := HL9.out; unfold wrap64; omega
      have w4 : IntKind.i64.wrap ((k : Int) + 1 - f) = (k : Int) + 1 - f := by have := HL9.out; rw [IntKind.wrap_i64]; omega
      clear hq hm2 hz2 hmem hr hr2
      -- the part, cloned
      obtain ⟨A5, hA5⟩ : ∃ A5, (if c = f then some ad else (some ad : Option Addr).map (·.add (f * 4))) = A5 := ⟨_, rfl⟩
      obtain ⟨m5, hm5⟩ : ∃ m5, k + 1 - f = m5 := ⟨_, rfl⟩
      obtain ⟨c5, hc5⟩ : ∃ c5, c - f = c5 := ⟨_, rfl⟩
      obtain ⟨P5, hP5⟩ : ∃ P5, (l.take (k + 1)).drop f = P5 := ⟨_, rfl⟩
      have s1 : ∀ W, (Instr.slice 22 (.slice (some ad) n c) (some (.int .i64 (f : Int))) (some (.int .i64 ((k : Int) + 1))) none).run Try.prog W = .ok (.slice A5 m5 c5) W := by
        have := slice_midE (some ad) f (k + 1) n c (by omega) (by omega) HC.out
        rw [hA5, hm5, hc5] at this
        simpa using this
      have HPL : Hid (P5.length = m5 ∧ ers P5 = ((ers l).take (k + 1)).drop f ∧ ∀ q ∈ P5, q ∈ l) := Lib.hid (by
        subst hP5 hm5
        refine ⟨by simp [HN.out]; omega, by rw [ers_drop, ers_take], fun q hq => List.mem_of_mem_take (List.mem_of_mem_drop hq)⟩)
      have HCL : Hid (∀ W, Below w.heap.size w W → Calls Try.prog 88 #[.slice A5 m5 c5] W fun e w' => ∃ A' c', e = .returned (.slice A' m5 c') ∧ Erow w' W.heap.size A' c' P5 ∧ Below W.heap.size W w') := Lib.hid (fun W hb => cloneE_any A5 P5 m5 c5 W HPL.out.1 (by
        have := lies_part (HP.out W hb) f m5 c (by rw [HN.out]; exact HC.out)
        rw [hA5] at this
        have e : (l.drop f).take m5 = P5 := by
          rw [← hP5, List.drop_take, ← hm5]
        rwa [e] at this) (by have := HL9.out; have := HPL.out.1; omega))
      clear hA5 hc5
      have HM5 := Lib.hid hm5
      clear hm5
      go_upto_region 6 with fail
      obtain ⟨wx, hwx⟩ : ∃ wx, wr.alloc (.cells #[.slice x.k.a m x.k.c, .int .i64 x.s, .bool x.d, .slice x.v.a zv x.v.c] 26) = wx := ⟨_, rfl⟩
      have HOB : Hid (∀ W, Below wx.heap.size wx W → W.heap[wr.heap.size]? = some (.cells #[.slice x.k.a m x.k.c, .int .i64 x.s, .bool x.d, .slice x.v.a zv x.v.c] 26 (0, 0))) := Lib.hid (fun W hb => by subst hwx; exact box_obj hb)
      have BX : Hid (Below w.heap.size w wx) := Lib.hid (hwx ▸ b2.out.alloc WS.out _)
      have BR : Hid (Below wr.heap.size wr wx) := Lib.hid (hwx ▸ below_new _ _)
      have BXX : Hid (∀ q, Below w.heap.size w (wx.drewN q)) := Lib.hid (fun q => below_drewN BX.out q)
      rw [hwx]
      clear hwx a0 a1 a2 a3
      obtain ⟨c0, c1, c2', c3⟩ := box_four (HOB.out wx (Below.refl _ _))
      by_cases hlast : k + 1 = n
      · have d1 : ((k : Int) + 1 == (n : Int)) = true := beq_iff_eq.2 (by omega)
        have HG1 : Hid (k + 1 < n → (goC z ((ers l).take (k + 1 + 1))).1 = (goC z ((ers l).take (k + 1))).1 ++ [(goC z ((ers l).take (k + 1))).2] ∧ (goC z ((ers l).take (k + 1 + 1))).2 = ((ers l).take (k + 1 + 1)).drop (k + 1)) := Lib.hid (fun h => absurd hlast (by omega))
        have HG2 : Hid (k + 1 = n → cutC z (ers l) = (goC z ((ers l).take (k + 1))).1 ++ [(goC z ((ers l).take (k + 1))).2]) := Lib.hid (fun h => cutC_end HQ.out (by rw [ers_len, HN.out]; omega))
        clear hlast
        go_upto_region 7 with fail
        go_quiet (fail)
        go_wp2_with (first
          | (go_at_call 88; refine (HCL.out _ (by first | exact BXX.out _ | exact BX.out)).mono ?_; rintro e w7 ⟨A7, c7, rfl, q1, b7⟩; have Q1 := Lib.hid (q1.mono (show w.heap.size ≤ _ from (by first | exact (BXX.out _).size | exact BX.out.size))); have B7 : Hid (Below w.heap.size w w7) := Lib.hid (below_then (by first | exact BXX.out _ | exact BX.out) b7); have B7R : Hid (Below wr.heap.size wr w7) := Lib.hid (below_then (by first | exact below_drewN BR.out _ | exact BR.out) b7); clear q1 b7 c0 c1 c2' c3)
          | (at_builtin; refine wpList_append_grow _ (by rfl) (.tmp 43) (.tmp 50) (by rfl) w.heap.size A2 c2 T [⟨A7, c7, P5⟩] _ j 1 1 (by first | rfl | (simp [Act.eval]; done)) (by first | rfl | (simp [Act.eval]; done)) hj.out.1 rfl ((r2.out.kept B7R.out (Nat.le_refl _)).alloc _) (lit_list w7 A7 c7 m5 P5 HPL.out.1) (by have := B7.out.size; simp; omega) (by have := hj.out; have := HL9.out; simp only [List.length_singleton]; omega) ?_; intro A8 c8 w8 r8 b8 g8; have H8 : Hid (Grow w8 w.heap.size A8 c8 (T ++ [⟨A7, c7, P5⟩]) ∧ Pcs w8 w.heap.size l (T ++ [⟨A7, c7, P5⟩]) ∧ Below w.heap.size w w8) := (by
              have hGr := ((r2.out.kept B7R.out (Nat.le_refl _)).alloc (.cells #[.slice A7 m5 c7] 22))
              have g9 : (w7.alloc (.cells #[.slice A7 m5 c7] 22)).grownBy w8 (Value.slice A2 T.length c2).ownBlock := by rw [hj.out.1]; exact g8
              have n1 : Pcs (w7.alloc (.cells #[.slice A7 m5 c7] 22)) w.heap.size l (T ++ [⟨A7, c7, P5⟩]) := ((hm.out.kept B7R.out (Nat.le_refl _)).kept (below_new w7 _) (Nat.le_refl _)).snoc (Q1.out.alloc _) HPL.out.2.2
              exact Lib.hid ⟨r8, n1.besideG hGr g9, (B7.out.alloc B7.out.size _).trans b8⟩); clear r8 b8 g8))
        go_roundw
        case rel => exact ⟨k + 1, k + 1, j + 1, A8, c8, T ++ [⟨A7, c7, P5⟩], by omega, by go_num, by go_num, rfl, Lib.hid ⟨by rw [List.length_append, hj.out.1]; rfl, by have := hj.out; omega, Nat.le_refl _⟩, Lib.hid (fun h => by rw [fl_append, HR1.out.1, (HG1.out h).1, (HG1.out h).2, HR1.out.2, ← HPL.out.2.1]; exact ⟨rfl, rfl⟩), Lib.hid (fun h => by rw [fl_append, HR1.out.1, HG2.out h, HR1.out.2, ← HPL.out.2.1]; rfl), Lib.hid H8.out.2.1, Lib.hid H8.out.1, Lib.hid H8.out.2.2⟩
        case measure => simp [intOf]; omega
      have d1 : ((k : Int) + 1 == (n : Int)) = false := beq_eq_false_iff_ne.2 (by omega)
      have hy := List.getElem?_eq_getElem (l := l) (i := k + 1) (by have := HN.out; omega)
      generalize l[k + 1]'(by have := HN.out; omega) = y at hy
      have hlt1 : k + 1 < n := by omega
      have k1 : (k : Int) + 1 < n := by omega
      have HNX : Hid _ := Lib.hid (goC_next (z := z) HQ.out (ers_get hy))
      have HTK : Hid ((ers l).take (k + 1 + 1) = (ers l).take (k + 1) ++ [y.rd]) := Lib.hid (by rw [List.take_add_one (i := k + 1), ers_get hy]; rfl)
      have HLN : Hid (((goC z ((ers l).take (k + 1))).2).length = m5 ∧ ((ers l).take (k + 1)).length = k + 1) := Lib.hid ⟨by rw [HR1.out.2, ← HPL.out.2.1, ers_len, HPL.out.1], by rw [List.length_take, ers_len, HN.out]; omega⟩
      have b0 := (lies_entry_at (HP.out _ BX.out) hy).1
      have IY := (HI.out wx BX.out y (List.mem_of_getElem? hy)).1
      have IX := (HX.out wx BX.out).1
      obtain ⟨yn, hyn⟩ : ∃ m, y.k.l.length = m := ⟨_, rfl⟩
      rw [hyn] at b0 IY
      rw [HM2.out.1] at IX
      have b1 : wx.cell? (ad.add ((k + 1) * 4)) = some (.slice y.k.a yn y.k.c) := b0
      by_cases hzl : z ≤ (m5 : Int)
      · have d2 : decide ((k : Int) + 1 - f ≥ z) = true := decide_eq_true (by have := HM5.out; omega)
        have d3 : decide (z ≤ (k : Int) + 1 - f) = true := decide_eq_true (by have := HM5.out; omega)
        obtain ⟨eq, heq⟩ : ∃ eq, decide (x.k.l = y.k.l) = eq := ⟨_, rfl⟩
        have HEQ : Hid (∀ q, Calls Try.prog 48 #[.slice x.k.a m x.k.c, .slice y.k.a yn y.k.c] (wx.drewN q) fun e w' => e = .returned (.bool eq) ∧ w' = wx.drewN q) := Lib.hid (fun q => by
          rw [← heq]
          exact equal_any _ _ _ _ _ _ _ _ _ (IX.kept (below_drewN (Below.refl _ wx) q)) (IY.kept (below_drewN (Below.refl _ wx) q)))
        have HB : Hid (goC z ((ers l).take (k + 2)) = if eq = false then ((goC z ((ers l).take (k + 1))).1 ++ [(goC z ((ers l).take (k + 1))).2], [y.rd]) else ((goC z ((ers l).take (k + 1))).1, (goC z ((ers l).take (k + 1))).2 ++ [y.rd])) := Lib.hid (by
          rw [HNX.out, HLN.out.1, decide_eq_true hzl, show decide (x.rd.1 = y.rd.1) = eq from heq]
          cases eq <;> simp)
        clear HNX heq IX IY hzl hy
        cases eq
        · have HG1 : Hid (k + 1 < n → (goC z ((ers l).take (k + 1 + 1))).1 = (goC z ((ers l).take (k + 1))).1 ++ [(goC z ((ers l).take (k + 1))).2] ∧ (goC z ((ers l).take (k + 1 + 1))).2 = ((ers l).take (k + 1 + 1)).drop (k + 1)) := Lib.hid (fun _ => by
            have e := HB.out
            rw [if_pos rfl] at e
            rw [show k + 1 + 1 = k + 2 from rfl, e]
            refine ⟨rfl, ?_⟩
            have := HTK.out
            rw [show k + 1 + 1 = k + 2 from rfl] at this
            rw [this, List.drop_append_of_le_length (by have := HLN.out.2; omega), List.drop_of_length_le (by have := HLN.out.2; omega)]
            rfl)
          have HG2 : Hid (k + 1 = n → cutC z (ers l) = (goC z ((ers l).take (k + 1))).1 ++ [(goC z ((ers l).take (k + 1))).2]) := Lib.hid (fun h => absurd hlt1 (by omega))
          go_upto_region 7 with fail
          go_quiet (first | (go_at_call 48; refine Calls.quiet_of_same (HEQ.out _)))
          go_wp2_with (first
            | (go_at_call 88; refine (HCL.out _ (by first | exact BXX.out _ | exact BX.out)).mono ?_; rintro e w7 ⟨A7, c7, rfl, q1, b7⟩; have Q1 := Lib.hid (q1.mono (show w.heap.size ≤ _ from (by first | exact (BXX.out _).size | exact BX.out.size))); have B7 : Hid (Below w.heap.size w w7) := Lib.hid (below_then (by first | exact BXX.out _ | exact BX.out) b7); have B7R : Hid (Below wr.heap.size wr w7) := Lib.hid (below_then (by first | exact below_drewN BR.out _ | exact BR.out) b7); clear q1 b7 c0 c1 c2' c3)
            | (at_builtin; refine wpList_append_grow _ (by rfl) (.tmp 43) (.tmp 50) (by rfl) w.heap.size A2 c2 T [⟨A7, c7, P5⟩] _ j 1 1 (by first | rfl | (simp [Act.eval]; done)) (by first | rfl | (simp [Act.eval]; done)) hj.out.1 rfl ((r2.out.kept B7R.out (Nat.le_refl _)).alloc _) (lit_list w7 A7 c7 m5 P5 HPL.out.1) (by have := B7.out.size; simp; omega) (by have := hj.out; have := HL9.out; simp only [List.length_singleton]; omega) ?_; intro A8 c8 w8 r8 b8 g8; have H8 : Hid (Grow w8 w.heap.size A8 c8 (T ++ [⟨A7, c7, P5⟩]) ∧ Pcs w8 w.heap.size l (T ++ [⟨A7, c7, P5⟩]) ∧ Below w.heap.size w w8) := (by
                have hGr := ((r2.out.kept B7R.out (Nat.le_refl _)).alloc (.cells #[.slice A7 m5 c7] 22))
                have g9 : (w7.alloc (.cells #[.slice A7 m5 c7] 22)).grownBy w8 (Value.slice A2 T.length c2).ownBlock := by rw [hj.out.1]; exact g8
                have n1 : Pcs (w7.alloc (.cells #[.slice A7 m5 c7] 22)) w.heap.size l (T ++ [⟨A7, c7, P5⟩]) := ((hm.out.kept B7R.out (Nat.le_refl _)).kept (below_new w7 _) (Nat.le_refl _)).snoc (Q1.out.alloc _) HPL.out.2.2
                exact Lib.hid ⟨r8, n1.besideG hGr g9, (B7.out.alloc B7.out.size _).trans b8⟩); clear r8 b8 g8))
          go_roundw
          case rel => exact ⟨k + 1, k + 1, j + 1, A8, c8, T ++ [⟨A7, c7, P5⟩], by omega, by go_num, by go_num, rfl, Lib.hid ⟨by rw [List.length_append, hj.out.1]; rfl, by have := hj.out; omega, Nat.le_refl _⟩, Lib.hid (fun h => by rw [fl_append, HR1.out.1, (HG1.out h).1, (HG1.out h).2, HR1.out.2, ← HPL.out.2.1]; exact ⟨rfl, rfl⟩), Lib.hid (fun h => by rw [fl_append, HR1.out.1, HG2.out h, HR1.out.2, ← HPL.out.2.1]; rfl), Lib.hid H8.out.2.1, Lib.hid H8.out.1, Lib.hid H8.out.2.2⟩
          case measure => simp [intOf]; omega
        · have HG : Hid ((goC z ((ers l).take (k + 1 + 1))).1 = (goC z ((ers l).take (k + 1))).1 ∧ (goC z ((ers l).take (k + 1 + 1))).2 = ((ers l).take (k + 1 + 1)).drop f) := Lib.hid (by
            have e := HB.out
            rw [if_neg (by simp)] at e
            rw [show k + 1 + 1 = k + 2 from rfl, e]
            refine ⟨rfl, ?_⟩
            have := HTK.out
            rw [show k + 1 + 1 = k + 2 from rfl] at this
            rw [this, List.drop_append_of_le_length (by have := HLN.out.2; omega), ← HR1.out.2])
          go_upto_region 7 with fail
          go_quiet (first | (go_at_call 48; refine Calls.quiet_of_same (HEQ.out _)))
          go_wp2_with fail
          go_roundw
          case rel => exact ⟨k + 1, f, j, A2, c2, T, by omega, by go_num, rfl, rfl, Lib.hid ⟨hj.out.1, by have := hj.out; omega, by have := hj.out; omega⟩, Lib.hid (fun h => by rw [HG.out.1, HG.out.2, HR1.out.1]; exact ⟨rfl, rfl⟩), Lib.hid (fun h => absurd h (by omega)), Lib.hid (hm.out.kept (below_drewN BR.out _) (Nat.le_refl _)), Lib.hid (r2.out.kept (below_drewN BR.out _) (Nat.le_refl _)), Lib.hid (BXX.out _)⟩
          case measure => simp [intOf]; omega
      · have d2 : decide ((k : Int) + 1 - f ≥ z) = false := decide_eq_false (by have := HM5.out; omega)
        have d3 : decide (z ≤ (k : Int) + 1 - f) = false := decide_eq_false (by have := HM5.out; omega)
        have HG : Hid ((goC z ((ers l).take (k + 1 + 1))).1 = (goC z ((ers l).take (k + 1))).1 ∧ (goC z ((ers l).take (k + 1 + 1))).2 = ((ers l).take (k + 1 + 1)).drop f) := Lib.hid (by
          have e := HNX.out
          rw [HLN.out.1, decide_eq_false hzl, Bool.false_and, if_neg (by simp)] at e
          rw [show k + 1 + 1 = k + 2 from rfl, e]
          refine ⟨rfl, ?_⟩
          have := HTK.out
          rw [show k + 1 + 1 = k + 2 from rfl] at this
          rw [this, List.drop_append_of_le_length (by have := HLN.out.2; omega), ← HR1.out.2])
        clear HNX IX IY hzl hy
        go_upto_region 7 with fail
        go_quiet (fail)
        go_wp2_with fail
        go_roundw
        case rel => exact ⟨k + 1, f, j, A2, c2, T, by omega, by go_num, rfl, rfl, Lib.hid ⟨hj.out.1, by have := hj.out; omega, by have := hj.out; omega⟩, Lib.hid (fun h => by rw [HG.out.1, HG.out.2, HR1.out.1]; exact ⟨rfl, rfl⟩), Lib.hid (fun h => absurd h (by omega)), Lib.hid (hm.out.kept (below_drewN BR.out _) (Nat.le_refl _)), Lib.hid (r2.out.kept (below_drewN BR.out _) (Nat.le_refl _)), Lib.hid (BXX.out _)⟩
        case measure => simp [intOf]; omega
    · obtain rfl : k = n := by omega
      have HFF := Lib.hid (hr2.out rfl)
      go_wp2_with fail
      go_ret
      exact ⟨T, A2, j, c2, rfl, hj.out.1, HFF.out, hm.out, r2.out, b2.out⟩
end Go.Proofs.Ytcffpkflijpdjaa
namespace Go.Proofs.Ytcffpkflijpdjaa
open Go.RowKit
/-- What is answered of lists that are made one and cut: this, and nothing else. -/
def RunAns (F : List (List Er)) (z m : Int) (b : Bool) (er : Int) (P : List (List Er)) : Prop := (z < 1 ∧ er = 2 ∧ P = []) ∨ (1 ≤ z ∧ ∃ R, AnsM F er R ∧ P = cutC z (thinE m b R))
theorem RunAns.one {F : List (List Er)} {z m : Int} {b : Bool} {e1 e2 : Int} {P1 P2 : List (List Er)} (h : RunAns F z m b e1 P1) (k : RunAns F z m b e2 P2) : e1 = e2 ∧ P1 = P2 := by
  rcases h with ⟨h0, h1, h2⟩ | ⟨h0, R, h1, h2⟩ <;> rcases k with ⟨k0, k1, k2⟩ | ⟨k0, S, k1, k2⟩
  · exact ⟨h1.trans k1.symm, h2.trans k2.symm⟩
  · omega
  · omega
  · obtain ⟨e, e'⟩ := h1.one k1
    subst e'
    exact ⟨e, h2.trans k2.symm⟩
theorem thinE_nil (m : Int) (b : Bool) : thinE m b [] = [] := rfl
theorem thinE_sub (m : Int) (b : Bool) (L : List Er) : (thinE m b L).Sublist L := pickF_sub _ _ _
def RunOut (F : List (List Er)) (z m : Int) (b : Bool) (w : World) (e : Ending) (w' : World) : Prop := ∃ (T : List Gl) (A' : Option Addr) (j c' : Nat) (er : Int), e = .returned (.tuple #[.slice A' j c', .int .i64 er]) ∧ T.length = j ∧ RunAns F z m b er (fl T) ∧ GMades w' w.heap.size T ∧ Grow w' w.heap.size A' c' T ∧ Below w.heap.size w w'
set_option maxRecDepth 100000 in
set_option maxHeartbeats 8000000 in
theorem run_any (A : Option Addr) (Ls : List Gl) (n c : Nat) (m z : Int) (b : Bool) (w : World) (h : LF w A Ls n c) :
    Calls Try.prog 40 #[.slice A n c, .int .i64 m, .bool b, .int .i64 z] w (RunOut (fl Ls) z m b w) := by
  have HH := Lib.hid h
  clear h
  by_cases hz : z < 1
  · have d1 : decide (z < 1) = true := decide_eq_true hz
    have HZ := Lib.hid hz
    clear hz
    go_enter Try.func40, Try.ntmps40
    go_wp2_with fail
    go_ret2
    exact ⟨[], none, 0, 0, 2, rfl, rfl, .inl ⟨HZ.out, rfl, rfl⟩, GMades.nil _ _, Grow.nil _ _, Below.refl _ _⟩
  have d1 : decide (z < 1) = false := decide_eq_false hz
  have HZ : Hid (1 ≤ z) := Lib.hid (by omega)
  clear hz
  go_enter Try.func40, Try.ntmps40
  go_upto_region 4 with (go_at_call 27; refine (merge_m HH.out rfl).mono ?_; rintro e w3 ⟨M, A3, m3, c3, er, rfl, h1, h2, h3, h4, hb⟩; have E3 : Hid (M.length = m3 ∧ AnsM (fl Ls) er (ers M) ∧ EMades w3 w.heap.size M ∧ Erow w3 w.heap.size A3 c3 M ∧ Below w.heap.size w w3) := Lib.hid ⟨h1, h2, h3, h4, hb⟩; clear h1 h2 h3 h4 hb)
  by_cases h0 : er = 0
  · subst h0
    have EM : Hid (EF w3 A3 M m3 c3) := Lib.hid (HH.out.out E3.out.2.1 E3.out.1 E3.out.2.2.2.1.lies (E3.out.2.2.1.ins (fun p hp => HH.out.byt p ((ansM_mem E3.out.2.1).1 p hp))))
    have HO : Hid (decide (OrdL (ers M)) = true) := Lib.hid (decide_eq_true E3.out.2.1.ok.2.1)
    have HTH : Hid (∀ q, Calls Try.prog 33 #[.slice A3 m3 c3, .int .i64 m, .bool b] (w3.drewN q) fun e w' => ∃ (l' : List En) (A' : Option Addr) (n' c' : Nat), e = .returned (.tuple #[.slice A' n' c', .int .i64 0]) ∧ Hid (l'.length = n' ∧ ers l' = thinE m b (ers M) ∧ EMades w' w3.heap.size l' ∧ Erow w' w3.heap.size A' c' l' ∧ Below w3.heap.size w3 w')) := Lib.hid (fun q => (thin_ef m b (EM.out.kept (below_drewN (Below.refl _ w3) q))).mono fun e w' hc => by
      rw [HO.out] at hc
      obtain ⟨l', A', n', c', h1, h2, h3, h4, h5, h6⟩ := hc
      exact ⟨l', A', n', c', h1, Lib.hid ⟨h2, h3, h4, h5, below_then (below_drewN (Below.refl _ w3) q) h6⟩⟩)
    go_upto_region 7 with (go_at_call 33; refine ((HTH.out 0)).mono ?_; rintro e w4 ⟨l4, A4, n4, c4, rfl, E4⟩)
    have HCT : Hid (Calls Try.prog 65 #[.slice A4 n4 c4, .int .i64 z] w4 (Cut z l4 w4)) := Lib.hid (cut_any A4 l4 n4 c4 z w4 E4.out.1 E4.out.2.2.2.1.lies (E4.out.2.2.1.ins (fun p hp => by
      rw [E4.out.2.1] at hp
      exact HH.out.byt p ((ansM_mem E3.out.2.1).1 p ((thinE_sub _ _ _).subset hp)))) (by have := (own_cap E4.out.2.2.2.1).1; rw [E4.out.1] at this; exact this) (by
      have h1 := congrArg List.length E4.out.2.1
      rw [ers_len, E4.out.1] at h1
      have h2 := (thinE_sub m b (ers M)).length_le
      rw [ers_len, E3.out.1] at h2
      have := EM.out.few
      omega) HZ.out)
    go_wp2_with (go_at_call 65; refine HCT.out.mono ?_; rintro e w5 ⟨T, A5, j5, c5, rfl, t1, t2, t3, t4, t5⟩; have E5 : Hid (T.length = j5 ∧ fl T = cutC z (ers l4) ∧ Pcs w5 w4.heap.size l4 T ∧ Grow w5 w4.heap.size A5 c5 T ∧ Below w4.heap.size w4 w5) := Lib.hid ⟨t1, t2, t3, t4, t5⟩; clear t1 t2 t3 t4 t5)
    go_ret2
    have s4 : w.heap.size ≤ w4.heap.size := Nat.le_trans E3.out.2.2.2.2.size E4.out.2.2.2.2.size
    refine ⟨T, A5, j5, c5, 0, rfl, E5.out.1, .inr ⟨HZ.out, _, E3.out.2.1, by rw [E5.out.2.1, E4.out.2.1]⟩, fun g hg => ?_, E5.out.2.2.2.1.mono s4, (below_then (below_then E3.out.2.2.2.2 E4.out.2.2.2.2) E5.out.2.2.2.2)⟩
    obtain ⟨g1, g2⟩ := E5.out.2.2.1 g hg
    refine ⟨g1.mono s4, fun q hq => ?_⟩
    have := (E4.out.2.2.1.kept E5.out.2.2.2.2 (Nat.le_refl _)).mono E3.out.2.2.2.2.size
    exact this q (g2 q hq)
  · have d2 : (er != 0) = true := bne_iff_ne.2 h0
    have HR : Hid (ers M = []) := Lib.hid (E3.out.2.1.no h0)
    clear h0
    go_wp2_with fail
    go_ret2
    exact ⟨[], none, 0, 0, er, rfl, rfl, .inr ⟨HZ.out, _, E3.out.2.1, by rw [HR.out, thinE_nil, cutC_nil]; rfl⟩, GMades.nil _ _, Grow.nil _ _, E3.out.2.2.2.2⟩
end Go.Proofs.Ytcffpkflijpdjaa
namespace Go.Proofs.Ytcffpkflijpdjaa
open Go.RowKit
/-- What the document's Run answers. -/
def RunRef (F : List (List Er)) (z m : Int) (b : Bool) (w : World) (e : Ending) (w' : World) : Prop := ∃ (T : List Gl) (A' : Option Addr) (j c' : Nat) (er : Int), e = .returned (.tuple #[.slice A' j c', .int .i64 er]) ∧ T.length = j ∧ RunAns F z m b er (fl T) ∧ (∀ g ∈ T, Lies w' g.a (evals g.l) ∧ EIns w' g.l ∧ g.l.length ≤ g.c ∧ (g.c : Int) ≤ 9223372036854775807) ∧ Lies w' A' (gvals T) ∧ Below w.heap.size w w'
/-- What stands while the pieces are made: what is done lies in blocks that are there, the piece under way in later ones. -/
structure Pie (w0 w : World) (l : List En) (k j p : Nat) (z : Int) (A A3 : Option Addr) (c c3 : Nat) (T : List Gl) (P : List En) (w1 : World) : Prop where
  len : T.length = j
  plen : P.length = p
  goes : goC z ((ers l).take k) = (fl T, ers P)
  few : j + p ≤ k
  pcs : Pcs w1 w0.heap.size l T
  row : Grow w1 w0.heap.size A c T
  bel : Below w0.heap.size w0 w1
  mem : ∀ q ∈ P, q ∈ l
  part : Erow w w1.heap.size A3 c3 P
  step : Below w1.heap.size w1 w
theorem Pie.all {w0 w w1 : World} {l : List En} {k j p : Nat} {z : Int} {A A3 : Option Addr} {c c3 : Nat} {T : List Gl} {P : List En} (h : Pie w0 w l k j p z A A3 c c3 T P w1) : Below w0.heap.size w0 w := below_then h.bel h.step
/-- One more in the piece. -/
theorem Pie.more {w0 w w1 w' : World} {l : List En} {k j p : Nat} {z : Int} {A A3 A4 : Option Addr} {c c3 c4 : Nat} {T : List Gl} {P : List En} {q : En} (h : Pie w0 w l k j p z A A3 c c3 T P w1) (hq : l[k]? = some q) (hc : cutB z (ers P) q.rd = false) (hr : Erow w' w1.heap.size A4 c4 (P ++ [q])) (hb : Below w1.heap.size w1 w') :
    Pie w0 w' l (k + 1) j (p + 1) z A A4 c c4 T (P ++ [q]) w1 := by
  refine ⟨h.len, by rw [List.length_append, h.plen]; rfl, ?_, by have := h.few; omega, h.pcs, h.row, h.bel, fun x hx => (List.mem_append.1 hx).elim (h.mem x) (fun hx => by rw [List.mem_singleton.1 hx]; exact List.mem_of_getElem? hq), hr, hb⟩
  rw [goC_step (ers_get hq), h.goes]
  unfold stepC
  rw [hc, if_neg (by simp), ers_append]
  rfl
/-- The piece is put away, and the next begun. -/
theorem Pie.put {w0 w w1 w2 w' : World} {l : List En} {k j p : Nat} {z : Int} {A A2 A3 A4 : Option Addr} {c c2 c3 c4 : Nat} {T : List Gl} {P : List En} {q : En} (h : Pie w0 w l k j p z A A3 c c3 T P w1) (hq : l[k]? = some q) (hc : cutB z (ers P) q.rd = true) (hg : Grow w2 w0.heap.size A2 c2 (T ++ [⟨A3, c3, P⟩])) (hp : Pcs w2 w0.heap.size l (T ++ [⟨A3, c3, P⟩])) (hb2 : Below w0.heap.size w0 w2) (hr : Erow w' w2.heap.size A4 c4 [q]) (hb : Below w2.heap.size w2 w') :
    Pie w0 w' l (k + 1) (j + 1) 1 z A2 A4 c2 c4 (T ++ [⟨A3, c3, P⟩]) [q] w2 := by
  have h0 : 1 ≤ p := by
    have e := h.plen
    cases P with
    | nil => simp [cutB] at hc; cases hc.2
    | cons x P => simp at e; omega
  refine ⟨by rw [List.length_append, h.len]; rfl, rfl, ?_, by have := h.few; omega, hp, hg, hb2, fun x hx => by rw [List.mem_singleton.1 hx]; exact List.mem_of_getElem? hq, hr, hb⟩
  rw [goC_step (ers_get hq), h.goes]
  unfold stepC
  rw [hc, if_pos rfl, fl_append]
  rfl
theorem cutB_last {z : Int} {P : List En} {p : Nat} {y : En} {x : Er} (hp : P[p]? = some y) (hn : P.length = p + 1) : cutB z (ers P) x = (decide (z ≤ (p + 1 : Nat)) && !decide (y.k.l = x.1)) := by
  have e : (ers P).getLast? = some y.rd := by
    rw [List.getLast?_eq_getElem?, ers_len, hn]
    exact ers_get hp
  unfold cutB
  rw [e, ers_len, hn]
  rfl
end Go.Proofs.Ytcffpkflijpdjaa
namespace Go.Proofs.Ytcffpkflijpdjaa
open Go.RowKit
set_option maxRecDepth 100000 in
set_option maxHeartbeats 8000000 in
theorem refRun_any (A : Option Addr) (Ls : List Gl) (n c : Nat) (m z : Int) (b : Bool) (w : World) (h : LF w A Ls n c) :
    Calls Try.prog 42 #[.slice A n c, .int .i64 m, .bool b, .int .i64 z] w (RunRef (fl Ls) z m b w) := by
  have HH := Lib.hid h
  clear h
  by_cases hz : z < 1
  · have d1 : decide (z < 1) = true := decide_eq_true hz
    have HZ := Lib.hid hz
    clear hz
    go_enter Try.func42, Try.ntmps42
    go_wp2_with fail
    go_ret2
    exact ⟨[], none, 0, 0, 2, rfl, rfl, .inl ⟨HZ.out, rfl, rfl⟩, (fun g hg => by cases hg), .inl rfl, Below.refl _ _⟩
  have d1 : decide (z < 1) = false := decide_eq_false hz
  have HZ : Hid (1 ≤ z) := Lib.hid (by omega)
  clear hz
  go_enter Try.func42, Try.ntmps42
  go_upto_region 4 with (go_at_call 29; refine (refMerge_m HH.out rfl).mono ?_; rintro e w3 ⟨M, A3, m3, c3, er, rfl, h1, h2, h3, h4, hb⟩; have E3 : Hid (M.length = m3 ∧ AnsM (fl Ls) er (ers M) ∧ Lies w3 A3 (evals M) ∧ EIns w3 M ∧ Below w.heap.size w w3) := Lib.hid ⟨h1, h2, h3, h4, hb⟩; clear h1 h2 h3 h4 hb)
  by_cases h0 : er = 0
  · subst h0
    have EM : Hid (EF w3 A3 M m3 c3) := Lib.hid (HH.out.out E3.out.2.1 E3.out.1 E3.out.2.2.1 E3.out.2.2.2.1)
    have HO : Hid (decide (OrdL (ers M)) = true) := Lib.hid (decide_eq_true E3.out.2.1.ok.2.1)
    go_upto_region 7 with (go_at_call 34; refine ((refThin_ef m b EM.out)).mono ?_; intro e w4 hc; rw [HO.out] at hc; obtain ⟨l4, A4, n4, c4, rfl, h1, h2, h3, h4, hb⟩ := hc; have E4 : Hid (l4.length = n4 ∧ ers l4 = thinE m b (ers M) ∧ (∀ p ∈ l4, p ∈ M) ∧ Erow w4 w3.heap.size A4 c4 l4 ∧ Below w3.heap.size w3 w4) := Lib.hid ⟨h1, h2, h3, h4, hb⟩; clear h1 h2 h3 h4 hb)
    have B4 : Hid (Below w.heap.size w w4) := Lib.hid (below_then E3.out.2.2.2.2 E4.out.2.2.2.2)
    have HL9 : Hid (n4 * 64 ≤ 140737488351232) := Lib.hid (by
      have h1 := congrArg List.length E4.out.2.1
      rw [ers_len, E4.out.1] at h1
      have h2 := (thinE_sub m b (ers M)).length_le
      rw [ers_len, E3.out.1] at h2
      have := EM.out.few
      omega)
    have HP : Hid (∀ W, Below w4.heap.size w4 W → Lies W A4 (evals l4) ∧ EIns W l4) := Lib.hid (fun W hb => ⟨E4.out.2.2.2.1.lies.kept hb, fun q hq => ((E3.out.2.2.2.1.kept E4.out.2.2.2.2).kept hb) q (E4.out.2.2.1 q hq)⟩)
    have HN := Lib.hid E4.out.1
    have HAN : Hid (∀ T, fl T = cutC z (ers l4) → RunAns (fl Ls) z m b 0 (fl T)) := Lib.hid (fun T hT => .inr ⟨HZ.out, _, E3.out.2.1, by rw [hT, E4.out.2.1]⟩)
    have hn9 := HL9.out
    clear E3 EM HO E4
    go_wp2_with fail
    go_loopw [12, 13, 34] (fun t12 t13 t34 wr => ∃ (k j p : Nat) (A2 A3 : Option Addr) (c2 c3 : Nat) (T : List Gl) (P : List En) (w1 : World), k ≤ n4 ∧ t34 = .int .i64 k ∧ t12 = .slice A2 j c2 ∧ t13 = .slice A3 p c3 ∧ Hid (Pie w4 wr l4 k j p z A2 A3 c2 c3 T P w1)) (fun _ _ t34 _ => n4 - (intOf t34).toNat)
    case atStart => exact ⟨0, 0, 0, none, none, 0, 0, [], [], _, by omega, rfl, rfl, rfl, Lib.hid ⟨rfl, rfl, rfl, Nat.le_refl _, Pcs.nil _ _ _, Grow.nil _ _, Below.refl _ _, (fun q hq => by cases hq), Erow.nil _ _, Below.refl _ _⟩⟩
    case round =>
      obtain ⟨k, j, p, A2, A3, c2, c3, T, P, w1, hk, rfl, rfl, rfl, hp⟩ := hrel
      by_cases hlt : k < n4
      · have hq := List.getElem?_eq_getElem (l := l4) (i := k) (by have := HN.out; omega)
        generalize l4[k]'(by have := HN.out; omega) = x at hq
        obtain ⟨ad, rfl, a0, a1, a2, a3⟩ := lies_entry (HP.out _ hp.out.all).1 hq
        have HMEM := Lib.hid (List.mem_of_getElem? hq)
        have HQ := Lib.hid hq
        obtain ⟨xm, hm2⟩ : ∃ m, x.k.l.length = m := ⟨_, rfl⟩
        obtain ⟨xz, hz2⟩ : ∃ z, x.v.l.length = z := ⟨_, rfl⟩
        rw [hm2] at a0
        rw [hz2] at a3
        have HM2 := Lib.hid (And.intro hm2 hz2)
        have k0 : (k : Int) < n4 := by omega
        have HIX := Lib.hid ((HP.out _ hp.out.all).2 x HMEM.out).1
        have HAB : Hid (∀ W, Below w4.heap.size w4 W → W.cell? (ad.add (k * 4)) = some (.slice x.k.a xm x.k.c) ∧ W.cell? ⟨(ad.add (k * 4)).block, (ad.add (k * 4)).off + 1, none⟩ = some (.int .i64 x.s) ∧ W.cell? ⟨(ad.add (k * 4)).block, (ad.add (k * 4)).off + 2, none⟩ = some (.bool x.d) ∧ W.cell? ⟨(ad.add (k * 4)).block, (ad.add (k * 4)).off + 3, none⟩ = some (.slice x.v.a xz x.v.c)) := Lib.hid (fun W hb => by
          obtain ⟨ad', e, b0, b1, b2, b3⟩ := lies_entry (HP.out _ hb).1 HQ.out
          injection e with e
          subst e
          rw [HM2.out.1] at b0
          rw [HM2.out.2] at b3
          exact ⟨b0, b1, b2, b3⟩)
        have HJN : Hid (j + p < n4) := Lib.hid (by have := hp.out.few; omega)
        clear hq hm2 hz2
        by_cases hzp : z ≤ (p : Int)
        · obtain ⟨p, rfl⟩ : ∃ i, p = i + 1 := ⟨p - 1, by have := HZ.out; omega⟩
          have d2 : decide (((p + 1 : Nat) : Int) ≥ z) = true := decide_eq_true hzp
          have d3 : decide (z ≤ ((p + 1 : Nat) : Int)) = true := decide_eq_true hzp
          have d2' : decide ((p : Int) + 1 ≥ z) = true := decide_eq_true (by omega)
          have d3' : decide (z ≤ (p : Int) + 1) = true := decide_eq_true (by omega)
          have hy := List.getElem?_eq_getElem (l := P) (i := p) (by have := hp.out.plen; omega)
          generalize P[p]'(by have := hp.out.plen; omega) = y at hy
          have w1' : wrap64 (((p + 1 : Nat) : Int) - 1) = (p : Int) := by have := HL9.out; have := hp.out.few; unfold wrap64; omega
          have w2' : IntKind.i64.wrap (((p + 1 : Nat) : Int) - 1) = (p : Int) := by have := HL9.out; have := hp.out.few; rw [IntKind.wrap_i64]; omega
          have w5 : wrap64 (p : Int) = (p : Int) := by have := HL9.out; have := hp.out.few; unfold wrap64; omega
          have w6 : IntKind.i64.wrap (p : Int) = (p : Int) := by have := HL9.out; have := hp.out.few; rw [IntKind.wrap_i64]; omega
          have p0 : (p : Int) < (p : Int) + 1 := by omega
          obtain ⟨bd, rfl, b0, -, -, -⟩ := lies_entry hp.out.part.lies hy
          have IY := ((HP.out _ hp.out.all).2 y (hp.out.mem y (List.mem_of_getElem? hy))).1
          obtain ⟨yn, hyn⟩ : ∃ m, y.k.l.length = m := ⟨_, rfl⟩
          rw [hyn] at b0
          have C0 := conv_drew IY.bys yn y.k.c hyn
          have C1 := conv_drew HIX.out.bys xm x.k.c HM2.out.1
          have hE := toList_dec IY.byt HIX.out.byt
          have HCB : Hid (cutB z (ers P) x.rd = !decide (y.k.l = x.k.l)) := Lib.hid (by rw [cutB_last hy hp.out.plen, decide_eq_true hzp, Bool.true_and]; rfl)
          clear hzp hy
          by_cases he : y.k.l = x.k.l
          · rw [decide_eq_true he] at hE
            have HCC : Hid (cutB z (ers P) x.rd = false) := Lib.hid (by rw [HCB.out, decide_eq_true he]; rfl)
            clear he HCB
            go_upto_region 12 with fail
            go_quiet (fail)
            go_wp2_with (at_builtin; refine wpList_append_erow _ (by rfl) (.tmp 62) (.tmp 67) (by rfl) w1.heap.size (some bd) c3 P [x] _ (p + 1) 1 1 (by first | rfl | (simp [Act.eval]; done)) (by first | rfl | (simp [Act.eval]; done)) hp.out.plen rfl ((hp.out.part.kept (below_drewN (Below.refl _ wr) _) (Nat.le_refl _)).alloc _) (lit_entry _ x.k.a x.v.a x.k.c x.v.c x.k.l x.v.l x.s x.d xm xz HM2.out.1 HM2.out.2) (by have := hp.out.step.size; simp; omega) (by have := hp.out.plen; have := HL9.out; have := HJN.out; simp only [List.length_singleton]; omega) ?_; intro A8 c8 w8 r8 b8 g8; have H8 : Hid (Erow w8 w1.heap.size A8 c8 (P ++ [x]) ∧ Below w1.heap.size w1 w8) := Lib.hid ⟨r8, ((below_drewN hp.out.step _).alloc hp.out.step.size _).trans b8⟩; clear r8 b8 g8)
            go_roundw
            case rel => exact ⟨k + 1, j, (p + 1) + 1, A2, A8, c2, c8, T, P ++ [x], w1, by omega, by go_num, rfl, rfl, Lib.hid (hp.out.more HQ.out HCC.out H8.out.1 H8.out.2)⟩
            case measure => simp [intOf]; omega
          · rw [decide_eq_false he] at hE
            have HCC : Hid (cutB z (ers P) x.rd = true) := Lib.hid (by rw [HCB.out, decide_eq_false he]; rfl)
            clear he HCB
            go_upto_region 12 with fail
            go_quiet (fail)
            go_wp2_with (first
              | (at_builtin; refine wpList_append_grow _ (by rfl) (.tmp 58) (.tmp 60) (by rfl) w4.heap.size A2 c2 T [⟨(some bd), c3, P⟩] _ j 1 1 (by first | rfl | (simp [Act.eval]; done)) (by first | rfl | (simp [Act.eval]; done)) hp.out.len rfl ((hp.out.row.kept (below_drewN hp.out.step _) (Nat.le_refl _)).alloc _) (lit_list _ (some bd) c3 (p + 1) P hp.out.plen) (by have := hp.out.all.size; simp; omega) (by have := hp.out.len; have := HL9.out; have := HJN.out; simp only [List.length_singleton]; omega) ?_; intro A8 c8 w8 r8 b8 g8; have H8 : Hid (Grow w8 w4.heap.size A8 c8 (T ++ [⟨(some bd), c3, P⟩]) ∧ Pcs w8 w4.heap.size l4 (T ++ [⟨(some bd), c3, P⟩]) ∧ Below w4.heap.size w4 w8) := (by
                  have g9 := g8
                  rw [← hp.out.len] at g9
                  exact Lib.hid ⟨r8, (((hp.out.pcs.kept (below_drewN hp.out.step _) (Nat.le_refl _)).kept (below_new _ _) (Nat.le_refl _)).snoc (((hp.out.part.kept (below_drewN (Below.refl _ wr) _) (Nat.le_refl _)).mono hp.out.bel.size).alloc _) hp.out.mem).besideG ((hp.out.row.kept (below_drewN hp.out.step _) (Nat.le_refl _)).alloc _) g9, ((below_drewN hp.out.all _).alloc hp.out.all.size _).trans b8⟩); clear r8 b8 g8; obtain ⟨a0, a1, a2, a3⟩ := HAB.out w8 H8.out.2.2)
              | (at_builtin; refine wpList_append_erow _ (by rfl) (.tmp 62) (.tmp 67) (by rfl) w8.heap.size none 0 [] [x] _ 0 1 1 (by first | rfl | (simp [Act.eval]; done)) (by first | rfl | (simp [Act.eval]; done)) rfl rfl (Erow.nil _ _) (lit_entry _ x.k.a x.v.a x.k.c x.v.c x.k.l x.v.l x.s x.d xm xz HM2.out.1 HM2.out.2) (by simp) (by simp) ?_; intro A9 c9 w9 r9 b9 g9; have H9 : Hid (Erow w9 w8.heap.size A9 c9 [x] ∧ Below w8.heap.size w8 w9) := Lib.hid ⟨r9, (below_new w8 _).trans b9⟩; clear r9 b9 g9))
            go_roundw
            case rel => exact ⟨k + 1, j + 1, 1, A8, A9, c8, c9, T ++ [⟨(some bd), c3, P⟩], [x], w8, by omega, by go_num, rfl, rfl, Lib.hid (hp.out.put HQ.out HCC.out H8.out.1 H8.out.2.1 H8.out.2.2 H9.out.1 H9.out.2)⟩
            case measure => simp [intOf]; omega
        · have d2 : decide ((p : Int) ≥ z) = false := decide_eq_false (by omega)
          have d3 : decide (z ≤ (p : Int)) = false := decide_eq_false (by omega)
          have HCC : Hid (cutB z (ers P) x.rd = false) := Lib.hid (by
            unfold cutB
            rw [ers_len, hp.out.plen, d3]
            rfl)
          clear hzp
          go_upto_region 12 with fail
          go_quiet (fail)
          go_wp2_with (at_builtin; refine wpList_append_erow _ (by rfl) (.tmp 62) (.tmp 67) (by rfl) w1.heap.size A3 c3 P [x] _ p 1 1 (by first | rfl | (simp [Act.eval]; done)) (by first | rfl | (simp [Act.eval]; done)) hp.out.plen rfl ((hp.out.part.kept (below_drewN (Below.refl _ wr) _) (Nat.le_refl _)).alloc _) (lit_entry _ x.k.a x.v.a x.k.c x.v.c x.k.l x.v.l x.s x.d xm xz HM2.out.1 HM2.out.2) (by have := hp.out.step.size; simp; omega) (by have := hp.out.plen; have := HL9.out; have := HJN.out; simp only [List.length_singleton]; omega) ?_; intro A8 c8 w8 r8 b8 g8; have H8 : Hid (Erow w8 w1.heap.size A8 c8 (P ++ [x]) ∧ Below w1.heap.size w1 w8) := Lib.hid ⟨r8, ((below_drewN hp.out.step _).alloc hp.out.step.size _).trans b8⟩; clear r8 b8 g8)
          go_roundw
          case rel => exact ⟨k + 1, j, p + 1, A2, A8, c2, c8, T, P ++ [x], w1, by omega, by go_num, rfl, rfl, Lib.hid (hp.out.more HQ.out HCC.out H8.out.1 H8.out.2)⟩
          case measure => simp [intOf]; omega
      · obtain rfl : k = n4 := by omega
        have HGO : Hid (goC z (ers l4) = (fl T, ers P)) := Lib.hid (by have := hp.out.goes; rwa [List.take_of_length_le (by rw [ers_len, HN.out]; exact Nat.le_refl _)] at this)
        have HT : Hid (∀ W, Below w4.heap.size w4 W → ∀ T', Pcs W w4.heap.size l4 T' → ∀ g ∈ T', Lies W g.a (evals g.l) ∧ EIns W g.l ∧ g.l.length ≤ g.c ∧ (g.c : Int) ≤ 9223372036854775807) := Lib.hid (fun W hb T' hT g hg => by
          obtain ⟨g1, g2⟩ := hT g hg
          have := own_cap g1
          exact ⟨g1.lies, fun q hq => (HP.out W hb).2 q (g2 q hq), this.1, this.2⟩)
        have hpl := hp.out.plen
        by_cases hp0 : p = 0
        · subst hp0
          have HF : Hid (fl T = cutC z (ers l4)) := Lib.hid (by
            unfold cutC finC
            rw [HGO.out, List.eq_nil_of_length_eq_zero hpl]
            rfl)
          clear hpl
          go_wp2_with fail
          go_ret2
          have bb := below_then B4.out hp.out.all
          exact ⟨T, A2, j, c2, 0, rfl, hp.out.len, HAN.out T HF.out, HT.out _ hp.out.all T (hp.out.pcs.kept hp.out.step (Nat.le_refl _)), (hp.out.row.kept hp.out.step (Nat.le_refl _)).lies, bb⟩
        · have HF : Hid (fl T ++ [ers P] = cutC z (ers l4)) := Lib.hid (by
            unfold cutC finC
            rw [HGO.out, if_neg (fun e => hp0 (by have := congrArg List.length e; rw [ers_len, hpl] at this; exact this))])
          have p1 : 0 < p := by omega
          have p2 : (0 : Int) < p := by omega
          have HPL := Lib.hid hpl
          have HJN : Hid (j + p ≤ k) := Lib.hid hp.out.few
          clear hpl hp0
          go_wp2_with (at_builtin; refine wpList_append_grow _ (by rfl) (.tmp 73) (.tmp 75) (by rfl) w4.heap.size A2 c2 T [⟨A3, c3, P⟩] _ j 1 1 (by first | rfl | (simp [Act.eval]; done)) (by first | rfl | (simp [Act.eval]; done)) hp.out.len rfl ((hp.out.row.kept hp.out.step (Nat.le_refl _)).alloc _) (lit_list wr A3 c3 p P HPL.out) (by have := hp.out.all.size; simp; omega) (by have := hp.out.len; have := HL9.out; have := HJN.out; simp only [List.length_singleton]; omega) ?_; intro A8 c8 w8 r8 b8 g8; have H8 : Hid (Grow w8 w4.heap.size A8 c8 (T ++ [⟨A3, c3, P⟩]) ∧ Pcs w8 w4.heap.size l4 (T ++ [⟨A3, c3, P⟩]) ∧ Below w4.heap.size w4 w8) := (by
            have hGr := ((hp.out.row.kept hp.out.step (Nat.le_refl _)).alloc (.cells #[.slice A3 p c3] 22))
            have g9 : (wr.alloc (.cells #[.slice A3 p c3] 22)).grownBy w8 (Value.slice A2 T.length c2).ownBlock := by rw [hp.out.len]; exact g8
            have n1 : Pcs (wr.alloc (.cells #[.slice A3 p c3] 22)) w4.heap.size l4 (T ++ [⟨A3, c3, P⟩]) := ((hp.out.pcs.kept hp.out.step (Nat.le_refl _)).kept (below_new wr _) (Nat.le_refl _)).snoc ((hp.out.part.mono hp.out.bel.size).alloc _) hp.out.mem
            exact Lib.hid ⟨r8, n1.besideG hGr g9, (hp.out.all.alloc hp.out.all.size _).trans b8⟩); clear r8 b8 g8)
          go_ret2
          exact ⟨T ++ [⟨A3, c3, P⟩], A8, j + 1, c8, 0, rfl, by rw [List.length_append, hp.out.len]; rfl, HAN.out _ (by rw [fl_append, ← HF.out]; rfl), HT.out _ H8.out.2.2 _ H8.out.2.1, H8.out.1.lies, below_then B4.out H8.out.2.2⟩
  · have d2 : (er != 0) = true := bne_iff_ne.2 h0
    have HR : Hid (ers M = []) := Lib.hid (E3.out.2.1.no h0)
    clear h0
    go_wp2_with fail
    go_ret2
    exact ⟨[], none, 0, 0, er, rfl, rfl, .inr ⟨HZ.out, _, E3.out.2.1, by rw [HR.out, thinE_nil, cutC_nil]; rfl⟩, (fun g hg => by cases hg), .inl rfl, E3.out.2.2.2.2⟩
end Go.Proofs.Ytcffpkflijpdjaa
namespace Go.Proofs.Ytcffpkflijpdjaa
open Go.RowKit
/-- Lists that may be read. -/
structure Gs (w : World) (A : Option Addr) (T : List Gl) (n : Nat) : Prop where
  len : T.length = n
  lies : Lies w A (gvals T)
  each : ∀ g ∈ T, Lies w g.a (evals g.l) ∧ EIns w g.l ∧ g.l.length * 64 ≤ 140737488351232
theorem Gs.kept {w w' : World} {A : Option Addr} {T : List Gl} {n : Nat} (h : Gs w A T n) (hb : Below w.heap.size w w') : Gs w' A T n := ⟨h.len, h.lies.kept hb, fun g hg => ⟨(h.each g hg).1.kept hb, (h.each g hg).2.1.kept hb, (h.each g hg).2.2⟩⟩
set_option maxRecDepth 100000 in
set_option maxHeartbeats 8000000 in
theorem sameGl_any (A B : Option Addr) (T U : List Gl) (n c d : Nat) (w : World) (h : Gs w A T n) (k : Gs w B U n) (he : fl T = fl U) (hn9 : n * 24 ≤ 140737488351232) :
    Calls Try.prog 43 #[.slice A n c, .slice B n d] w fun e w' => e = .returned (.bool true) ∧ Below w.heap.size w w' := by
  have HT := Lib.hid h
  have HU := Lib.hid k
  have HE := Lib.hid he
  clear h k he
  go_enter Try.func43, Try.ntmps43
  go_wp2_with fail
  go_loopw [13] (fun t13 wr => ∃ i : Nat, i ≤ n ∧ t13 = .int .i64 i ∧ Hid (Below w.heap.size w wr)) (fun t13 _ => n - (intOf t13).toNat)
  case atStart => exact ⟨0, by omega, rfl, Lib.hid (Below.refl _ _)⟩
  case round =>
    obtain ⟨i, hi, rfl, hr⟩ := hrel
    by_cases hlt : i < n
    · have hq := List.getElem?_eq_getElem (l := T) (i := i) (by have := HT.out.len; omega)
      generalize T[i]'(by have := HT.out.len; omega) = x at hq
      have hq' := List.getElem?_eq_getElem (l := U) (i := i) (by have := HU.out.len; omega)
      generalize U[i]'(by have := HU.out.len; omega) = y at hq'
      obtain ⟨ad, rfl, a0⟩ := take_gvals HT.out.lies hq
      obtain ⟨ad', rfl, b0⟩ := take_gvals HU.out.lies hq'
      have hxy : ers x.l = ers y.l := by
        have h1 := fl_get hq
        have h2 := fl_get hq'
        rw [HE.out, h2] at h1
        injection h1 with h1
        exact h1.symm
      have i0 : (i : Int) < n := by omega
      obtain ⟨xn, hxn⟩ : ∃ m, x.l.length = m := ⟨_, rfl⟩
      obtain ⟨yn, hyn⟩ : ∃ m, y.l.length = m := ⟨_, rfl⟩
      have HSM : Hid (∀ W, Below w.heap.size w W → Calls Try.prog 24 #[.slice x.a xn x.c, .slice y.a yn y.c] W fun e w' => e = .returned (.bool true) ∧ Below W.heap.size W w') := Lib.hid (fun W hW => by
        have h1 := (HT.out.kept hW).each x (List.mem_of_getElem? hq)
        have h2 := (HU.out.kept hW).each y (List.mem_of_getElem? hq')
        exact sameEns hxn hyn h1.1 h2.1 h1.2.1 h2.2.1 hxy (by rw [← hxn]; exact h1.2.2))
      have HLY : Hid (∀ W, Below w.heap.size w W → W.cell? (ad.add i) = some (.slice x.a xn x.c) ∧ W.cell? (ad'.add i) = some (.slice y.a yn y.c)) := Lib.hid (fun W hW => by
        obtain ⟨d, e, h1⟩ := take_gvals (HT.out.lies.kept hW) hq
        obtain ⟨d', e', h2⟩ := take_gvals (HU.out.lies.kept hW) hq'
        injection e with e
        injection e' with e'
        subst e e'
        unfold Gl.val at h1 h2
        rw [hxn] at h1
        rw [hyn] at h2
        exact ⟨h1, h2⟩)
      clear hq hq' hxy hxn hyn a0 b0
      have RR := Lib.hid hr.out
      go_upto_region 6 with fail
      go_region_held3 (fun W => W.cell? (ad.add i) = some (.slice x.a xn x.c) ∧ W.cell? (ad'.add i) = some (.slice y.a yn y.c)) (first | exact HLY.out _ RR.out | exact HLY.out _ RR.out.drew | go_keep) (first
        | (go_at_call 24; refine (HSM.out _ (by first | exact RR.out | exact RR.out.drew)).mono ?_; rintro e w7 ⟨rfl, hz⟩; have RR : Hid (Below w.heap.size w w7) := Lib.hid (below_then (by first | exact RR.out | exact RR.out.drew) hz); clear hz))
      all_goals
        go_wp2_with fail
        go_roundw
        case rel => exact ⟨i + 1, by omega, by go_num, RR⟩
        case measure => simp [intOf]; omega
    · obtain rfl : n = i := by omega
      go_wp2_with fail
      go_ret
      exact ⟨rfl, hr.out⟩
set_option maxRecDepth 100000 in
set_option maxHeartbeats 8000000 in
theorem listsC_any (A : Option Addr) (Ls : List Gl) (n c : Nat) (w : World) (h : LsIn w A Ls n c) (h9 : n * 24 ≤ 140737488351232) (hg : ∀ g ∈ Ls, g.l.length * 64 ≤ 140737488351232 ∧ ∀ q ∈ g.l, q.k.l.length ≤ 140737488351232 ∧ q.v.l.length ≤ 140737488351232) :
    Calls Try.prog 41 #[.slice A n c] w fun e w' => ∃ (T : List Gl) (A' : Option Addr) (c' : Nat), e = .returned (.slice A' n c') ∧ T.length = n ∧ fl T = fl Ls ∧ GMades w' w.heap.size T ∧ Grow w' w.heap.size A' c' T ∧ Below w.heap.size w w' := by
  have HH := Lib.hid h
  have HN := Lib.hid h.len
  have HG := Lib.hid hg
  have H9 := Lib.hid h9
  clear h hg
  go_enter Try.func41, Try.ntmps41
  go_wp2_with fail
  go_loopw [3, 7] (fun t3 t7 wr => ∃ (k : Nat) (A2 : Option Addr) (c2 : Nat) (T : List Gl), k ≤ n ∧ t7 = .int .i64 k ∧ t3 = .slice A2 k c2 ∧ Hid (T.length = k ∧ fl T = (fl Ls).take k ∧ GMades wr w.heap.size T ∧ Grow wr w.heap.size A2 c2 T ∧ Below w.heap.size w wr)) (fun _ t7 _ => n - (intOf t7).toNat)
  case atStart => exact ⟨0, none, 0, [], by omega, rfl, rfl, Lib.hid ⟨rfl, rfl, GMades.nil _ _, Grow.nil _ _, Below.refl _ _⟩⟩
  case round =>
    obtain ⟨k, A2, c2, T, hk, rfl, rfl, hr⟩ := hrel
    by_cases hlt : k < n
    · have hq := List.getElem?_eq_getElem (l := Ls) (i := k) (by have := HN.out; omega)
      generalize Ls[k]'(by have := HN.out; omega) = g at hq
      obtain ⟨ad, rfl, a0⟩ := take_gvals (HH.out.lies.kept hr.out.2.2.2.2) hq
      have hmem := List.mem_of_getElem? hq
      have HE := HH.out.each g hmem
      obtain ⟨gn, hgn⟩ : ∃ m, g.l.length = m := ⟨_, rfl⟩
      have HCP : Hid (Calls Try.prog 23 #[.slice g.a gn g.c] wr (ECopied wr g.l)) := Lib.hid (refCopy_any g.a g.l gn g.c wr hgn (HE.1.kept hr.out.2.2.2.2) (HE.2.1.kept hr.out.2.2.2.2) (by have := (HG.out g hmem).1; omega) (HG.out g hmem).2)
      have HFL := Lib.hid (fl_get hq)
      have HGN := Lib.hid hgn
      have k0 : (k : Int) < n := by omega
      unfold Gl.val at a0
      rw [hgn] at a0
      clear hq hmem HE hgn
      have HL1 := Lib.hid hr.out.1
      go_upto_region 6 with (first
        | (go_at_call 23; refine HCP.out.mono ?_; rintro e w6 ⟨l', A6, c6, he, rfl, hm, hrow, hb⟩; obtain ⟨ln, hln⟩ : ∃ m, l'.length = m := ⟨_, rfl⟩; rw [hln]; have H6 : Hid (l'.length = ln ∧ ers l' = ers g.l ∧ EMades w6 wr.heap.size l' ∧ Erow w6 wr.heap.size A6 c6 l' ∧ Below wr.heap.size wr w6) := Lib.hid ⟨hln, he, hm, hrow, hb⟩; clear hln he hm hrow hb HCP)
        | (at_builtin; refine wpList_append_grow _ (by rfl) (.tmp 10) (.tmp 16) (by rfl) w.heap.size A2 c2 T [⟨A6, c6, l'⟩] _ k 1 1 (by first | rfl | (simp [Act.eval]; done)) (by first | rfl | (simp [Act.eval]; done)) HL1.out rfl ((hr.out.2.2.2.1.kept H6.out.2.2.2.2 (Nat.le_refl _)).alloc _) (lit_list w6 A6 c6 ln l' H6.out.1) (by have := hr.out.2.2.2.2.size; have := H6.out.2.2.2.2.size; simp; omega) (by have := HL1.out; have := H9.out; simp only [List.length_singleton]; omega) ?_; intro A8 c8 w8 r8 b8 g8; have H8 : Hid (Grow w8 w.heap.size A8 c8 (T ++ [⟨A6, c6, l'⟩]) ∧ GMades w8 w.heap.size (T ++ [⟨A6, c6, l'⟩]) ∧ Below w.heap.size w w8) := (by
              have W6 : w.heap.size ≤ wr.heap.size := hr.out.2.2.2.2.size
              have hGr := ((hr.out.2.2.2.1.kept H6.out.2.2.2.2 (Nat.le_refl _)).alloc (.cells #[.slice A6 ln c6] 22))
              have g9 : (w6.alloc (.cells #[.slice A6 ln c6] 22)).grownBy w8 (Value.slice A2 T.length c2).ownBlock := by rw [HL1.out]; exact g8
              have n1 : GMades (w6.alloc (.cells #[.slice A6 ln c6] 22)) w.heap.size (T ++ [⟨A6, c6, l'⟩]) := ((hr.out.2.2.1.kept H6.out.2.2.2.2 (Nat.le_refl _)).kept (below_new w6 _) (Nat.le_refl _)).snoc ((H6.out.2.2.2.1.alloc _).mono W6) ((H6.out.2.2.1.kept (below_new w6 _) (Nat.le_refl _)).mono W6)
              exact Lib.hid ⟨r8, n1.besideG hGr g9, ((hr.out.2.2.2.2.trans (H6.out.2.2.2.2.mono W6)).alloc (by have := H6.out.2.2.2.2.size; omega) _).trans b8⟩); clear r8 b8 g8))
      go_wp2_with fail
      go_roundw
      case rel => exact ⟨k + 1, A8, c8, T ++ [⟨A6, c6, l'⟩], by omega, by go_num, rfl, Lib.hid ⟨by rw [List.length_append, HL1.out]; rfl, by rw [fl_append, hr.out.2.1, List.take_add_one, HFL.out, ← H6.out.2.1]; rfl, H8.out.2.1, H8.out.1, H8.out.2.2⟩⟩
      case measure => simp [intOf]; omega
    · obtain rfl : k = n := by omega
      have HFF : Hid (fl T = fl Ls) := Lib.hid (by have := hr.out.2.1; rwa [List.take_of_length_le (by rw [fl_length]; have := HN.out; omega)] at this)
      go_wp2_with fail
      go_ret
      exact ⟨T, A2, c2, rfl, hr.out.1, HFF.out, hr.out.2.2.1, hr.out.2.2.2.1, hr.out.2.2.2.2⟩
/-- Copies of lists. -/
theorem listsC_lf {w : World} {A : Option Addr} {Ls : List Gl} {n c : Nat} (h : LF w A Ls n c) : Calls Try.prog 41 #[.slice A n c] w fun e w' => ∃ (T : List Gl) (A' : Option Addr) (c' : Nat), e = .returned (.slice A' n c') ∧ fl T = fl Ls ∧ LF w' A' T n c' ∧ GMades w' w.heap.size T ∧ Grow w' w.heap.size A' c' T ∧ Below w.heap.size w w' :=
  (listsC_any A Ls n c w h.ls h.few (fun g hg => ⟨(h.each hg).few, (h.each hg).longs⟩)).mono fun e w' hc => by
    obtain ⟨T, A', c', h1, h2, h3, h4, h5, h6⟩ := hc
    exact ⟨T, A', c', h1, h3, h.made (.inl (by rw [← flat_fl, h3, flat_fl]; exact List.Sublist.refl _)) h2 h.few h5.lies h4, h4, h5, h6⟩
end Go.Proofs.Ytcffpkflijpdjaa
