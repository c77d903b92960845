/-
  Walks: the laws' own first call.
-/
import Derived.Test.YtimonpoeieenpaaKLa
namespace Go.Proofs.Ytimonpoeieenpaa
open Go.RowKit

def twoP : List Pr := [([97, 98], [120]), ([97, 99], [])]
def twoL : List Int := [0, 2, 1, 97, 98, 120, 1, 1, 0, 99]
theorem two_fit : FitP twoP := ⟨by decide, fun p hp => by
  simp [twoP] at hp
  rcases hp with rfl | rfl <;> exact ⟨by decide, by decide⟩⟩
theorem two_rise : risesP [] twoP := ⟨by decide, by decide, trivial⟩
theorem two_flat : flatP [] twoP = twoL := by decide
theorem two_build : buildP twoP = (twoL, 0) := by rw [buildP_ok two_fit two_rise, two_flat]
theorem two_find : findP twoL [97, 98] = ([120], true, 0) := by
  rw [← two_flat]
  exact findP_back (l := twoP) (i := 0) two_fit two_rise rfl
theorem bad_read : readP [1, 0, 0] = ([], 11) := by decide +kernel
theorem two_byt : Byt twoL := by unfold Byt twoL; decide
theorem ab_byt : Byt [97, 98] := by unfold Byt; decide

theorem cell_freeze (W : World) (p : Addr) (k : Nat) (x : Addr) : (W.freeze p k).cell? x = W.cell? x := by
  unfold World.freeze
  split
  · rfl
  · unfold World.cell?
    simp only [Array.getElem?_modify]
    by_cases h : p.block = x.block
    · rw [if_pos h]
      cases W.heap[x.block]? with
      | none => rfl
      | some o => cases o <;> rfl
    · rw [if_neg h]
theorem size_freeze (W : World) (p : Addr) (k : Nat) : (W.freeze p k).heap.size = W.heap.size := by
  unfold World.freeze
  split
  · rfl
  · simp
/-- A literal of bytes that is told as bytes again: its row is marked. -/
theorem lit_mark (w : World) (L : List Int) (cs : Array Value) (e : cs = (vals L).toArray) (n : Nat) (hn : L.length = n) (hl : n ≤ 9) (hB : Byt L) :
    ∃ F, (convert 24 24 (.slice (some ⟨w.heap.size, 0, none⟩) n n)).run Try.prog (w.alloc (.cells cs 5)) = .ok (.slice (some ⟨w.heap.size, 0, none⟩) n n) F ∧ In F (some ⟨w.heap.size, 0, none⟩) L n n ∧ Below w.heap.size w F := by
  have i := lit_in w L cs e n hn hl hB
  have hh : (w.alloc (.cells cs 5)).heap[w.heap.size]? = some (.cells cs 5 (0, 0)) := heap_alloc_new w _
  have hs : (w.alloc (.cells cs 5)).shape? w.heap.size = some (5, cs.size) := by
    unfold World.shape?
    rw [hh]
  refine ⟨(w.alloc (.cells cs 5)).freeze ⟨w.heap.size, cs.size, none⟩ 1, ?_, ⟨i.len, i.cap, i.top, ?_, i.byt⟩, ?_⟩
  · unfold convert
    simp [run_underlying Try.underlying24, run_underlying Try.underlying5, markStringish, hs]
  · rcases i.bys with h | ⟨ad, e, h⟩
    · exact .inl h
    · exact .inr ⟨ad, e, fun j x hx => by rw [cell_freeze]; exact h j x hx⟩
  · refine ⟨?_, ?_, ?_, by rw [size_freeze, World.size_alloc]; omega, fun k hk => ?_⟩
    · unfold World.freeze; split <;> rfl
    · unfold World.freeze; split <;> rfl
    · unfold World.freeze; split <;> rfl
    · have h1 : (w.alloc (.cells cs 5)).heap[k]? = w.heap[k]? := (below_new w _).block k hk
      rw [← h1]
      unfold World.freeze
      split
      · rfl
      · simp only [Array.getElem?_modify]
        rw [if_neg (by omega)]
def litP (g0 g1 g2 : Nat) : List Bp := [⟨⟨some ⟨g0, 0, none⟩, 2, [97, 98]⟩, ⟨some ⟨g1, 0, none⟩, 1, [120]⟩⟩, ⟨⟨some ⟨g2, 0, none⟩, 2, [97, 99]⟩, ⟨none, 0, []⟩⟩]
theorem litP_len (g0 g1 g2 : Nat) : ∀ q ∈ litP g0 g1 g2, q.k.l.length ≤ 140737488351232 ∧ q.v.l.length ≤ 140737488351232 := fun q hq => by
  simp [litP] at hq
  rcases hq with rfl | rfl <;> exact ⟨by simp, by simp⟩
theorem wk_build (W : World) (g0 g1 g2 : Nat) (j0 : In W (some ⟨g0, 0, none⟩) [97, 98] 2 2) (j1 : In W (some ⟨g1, 0, none⟩) [120] 1 1) (j2 : In W (some ⟨g2, 0, none⟩) [97, 99] 2 2) : Calls Try.prog 8 #[.slice (some ⟨W.heap.size, 0, none⟩) 2 2] (W.alloc (.cells #[.slice (some ⟨g0, 0, none⟩) 2 2, .slice (some ⟨g1, 0, none⟩) 1 1, .slice (some ⟨g2, 0, none⟩) 2 2, .slice none 0 0] 42)) (Built (W.alloc (.cells #[.slice (some ⟨g0, 0, none⟩) 2 2, .slice (some ⟨g1, 0, none⟩) 1 1, .slice (some ⟨g2, 0, none⟩) 2 2, .slice none 0 0] 42)) (twoL, 0)) := by
  have k0 := j0.kept (below_new W (.cells #[.slice (some ⟨g0, 0, none⟩) 2 2, .slice (some ⟨g1, 0, none⟩) 1 1, .slice (some ⟨g2, 0, none⟩) 2 2, .slice none 0 0] 42))
  have k1 := j1.kept (below_new W (.cells #[.slice (some ⟨g0, 0, none⟩) 2 2, .slice (some ⟨g1, 0, none⟩) 1 1, .slice (some ⟨g2, 0, none⟩) 2 2, .slice none 0 0] 42))
  have k2 := j2.kept (below_new W (.cells #[.slice (some ⟨g0, 0, none⟩) 2 2, .slice (some ⟨g1, 0, none⟩) 1 1, .slice (some ⟨g2, 0, none⟩) 2 2, .slice none 0 0] 42))
  have hn : (W.alloc (.cells #[.slice (some ⟨g0, 0, none⟩) 2 2, .slice (some ⟨g1, 0, none⟩) 1 1, .slice (some ⟨g2, 0, none⟩) 2 2, .slice none 0 0] 42)).heap[W.heap.size]? = some (.cells #[.slice (some ⟨g0, 0, none⟩) 2 2, .slice (some ⟨g1, 0, none⟩) 1 1, .slice (some ⟨g2, 0, none⟩) 2 2, .slice none 0 0] 42 (0, 0)) := heap_alloc_new W _
  have h := build_any (some ⟨W.heap.size, 0, none⟩) (litP g0 g1 g2) 2 2 (W.alloc (.cells #[.slice (some ⟨g0, 0, none⟩) 2 2, .slice (some ⟨g1, 0, none⟩) 1 1, .slice (some ⟨g2, 0, none⟩) 2 2, .slice none 0 0] 42)) rfl (.inr ⟨_, rfl, fun j u hu => ?_⟩) (fun q hq => ?_) (by decide) (litP_len _ _ _)
  · rw [show rds (litP g0 g1 g2) = twoP from rfl, two_build] at h
    exact h
  · have e : pvals (litP g0 g1 g2) = [.slice (some ⟨g0, 0, none⟩) 2 2, .slice (some ⟨g1, 0, none⟩) 1 1, .slice (some ⟨g2, 0, none⟩) 2 2, .slice none 0 0] := rfl
    rw [e] at hu
    match j, hu with
    | 0, hu =>
      simp at hu
      subst hu
      show World.cell? _ ⟨W.heap.size, 0, none⟩ = _
      simp only [World.cell?, hn]
      rfl
    | 1, hu =>
      simp at hu
      subst hu
      show World.cell? _ ⟨W.heap.size, 1, none⟩ = _
      simp only [World.cell?, hn]
      rfl
    | 2, hu =>
      simp at hu
      subst hu
      show World.cell? _ ⟨W.heap.size, 2, none⟩ = _
      simp only [World.cell?, hn]
      rfl
    | 3, hu =>
      simp at hu
      subst hu
      show World.cell? _ ⟨W.heap.size, 3, none⟩ = _
      simp only [World.cell?, hn]
      rfl
    | j + 4, hu => simp at hu
  · simp [litP] at hq
    rcases hq with rfl | rfl
    · exact ⟨k0, k1⟩
    · exact ⟨k2, ⟨rfl, Nat.le_refl _, by simp, .inl rfl, Byt.nil⟩⟩
theorem wk_find (A C : Option Addr) (c d : Nat) (w : World) (h : In w A twoL 10 c) (g : In w C [97, 98] 2 d) : Calls Try.prog 12 #[.slice A 10 c, .slice C 2 d] w fun e w' => ∃ A c, e = .returned (.tuple #[.slice A 1 c, .bool true, .int .i64 0]) ∧ Hid (In w' A [120] 1 c) ∧ Hid (Below w.heap.size w w') := by
  refine (find_any A C twoL [97, 98] 10 c 2 d w h g (by decide)).mono ?_
  rw [two_find]
  rintro e w' ⟨A, c, rfl, h1, h2⟩
  exact ⟨A, c, rfl, Lib.hid h1, Lib.hid h2⟩
theorem wk_read (A : Option Addr) (c : Nat) (w : World) (h : In w A [1, 0, 0] 3 c) : Calls Try.prog 15 #[.slice A 3 c] w fun e w' => ∃ A c, e = .returned (.tuple #[.slice A 0 c, .int .i64 11]) ∧ Hid (Below w.heap.size w w') := by
  refine (read_any A [1, 0, 0] 3 c w h (by decide)).mono ?_
  rw [bad_read]
  rintro e w' ⟨l, A, c, hl, rfl, -, -, hb⟩
  have : l = [] := by simpa [rds] using hl
  subst this
  exact ⟨A, c, rfl, Lib.hid hb⟩
theorem str_two : strOfNums twoL = ⟨#[0, 2, 1, 97, 98, 120, 1, 1, 0, 99]⟩ := rfl
theorem str_x : strOfNums [120] = ⟨#[120]⟩ := rfl

set_option maxRecDepth 100000 in
set_option maxHeartbeats 4000000 in
theorem wakes_any : Wakes 7 := fun w => by
  obtain ⟨F0, k0, i0, b0⟩ := lit_mark w [97, 98] #[.int .u8 97, .int .u8 98] rfl 2 rfl (by decide) (by unfold Byt; decide)
  obtain ⟨F1, k1, i1, b1⟩ := lit_mark F0 [120] #[.int .u8 120] rfl 1 rfl (by decide) (by unfold Byt; decide)
  obtain ⟨F2, k2, i2, b2⟩ := lit_mark F1 [97, 99] #[.int .u8 97, .int .u8 99] rfl 2 rfl (by decide) (by unfold Byt; decide)
  have WB := Lib.hid (wk_build F2 w.heap.size F0.heap.size F1.heap.size ((i0.kept b1).kept b2) (i1.kept b2) i2)
  have BW : Hid (Below w.heap.size w F2) := Lib.hid (below_then (below_then b0 b1) b2)
  clear i0 i1 i2 b0 b1 b2
  go_enter Try.func7, Try.ntmps7
  go_upto_region 4 with (first
    | (have t := WB; go_at_call 8; refine WB.out.mono ?_; rintro e w1 ⟨A1, c1, rfl, r1, b1⟩; have R1 := Lib.hid r1; have B1 := Lib.hid ((below_al BW.out _).trans (b1.mono (below_al BW.out _).size)); clear r1 b1 t WB)
    | (go_at_call 13; refine (own_any _ twoL _ c1 _ rfl R1.out.lies (by decide)).mono ?_; rintro e w2 ⟨g2, c2, rfl, m2, b2⟩; obtain ⟨F3, k3, i3, b3⟩ := lit_mark w2 [97, 98] #[.int .u8 97, .int .u8 98] rfl 2 rfl (by decide) (by unfold Byt; decide); have I2 : Hid (In F3 (some ⟨g2, 0, none⟩) twoL 10 c2) := Lib.hid ((Row.in_n (A := some ⟨g2, 0, none⟩) m2 two_byt rfl).kept b3); have I3 := Lib.hid i3; have R2 := Lib.hid ((R1.out.kept b2 (Nat.le_refl _)).kept b3 (Nat.le_refl _)); have B2 := Lib.hid (below_then (below_then B1.out b2) b3); clear m2 b2 i3 b3)
    | (go_at_call 12; refine (wk_find _ _ c2 2 _ I2.out I3.out).mono ?_; rintro e w4 ⟨A4, c4, rfl, I4, b4⟩; have l4 := lit_in w4 [1, 0, 0] #[.int .u8 1, .int .u8 0, .int .u8 0] rfl 3 rfl (by decide) (by unfold Byt; decide); have L4 := Lib.hid l4; have R4 := Lib.hid ((R2.out.kept b4.out (Nat.le_refl _)).kept (below_new w4 (.cells #[.int .u8 1, .int .u8 0, .int .u8 0] 5)) (Nat.le_refl _)); have J4 := Lib.hid (I4.out.kept (below_new w4 (.cells #[.int .u8 1, .int .u8 0, .int .u8 0] 5))); have B4 := Lib.hid (below_then (below_then B2.out b4.out) (below_new w4 (.cells #[.int .u8 1, .int .u8 0, .int .u8 0] 5))); clear l4 b4)
    | (go_at_call 15; refine (wk_read _ 3 _ L4.out).mono ?_; rintro e w5 ⟨A5, c5, rfl, b5⟩; have k5 := conv_any (R4.out.lies.kept b5.out) twoL.length c1 rfl; have k6 := conv_any (J4.out.kept b5.out).bys 1 c4 rfl; rw [str_two] at k5; rw [str_x] at k6; have B5 := Lib.hid (below_then B4.out b5.out); clear b5))
  go_wp2_with fail
  go_ret
  exact ⟨by simp, B5.out⟩

end Go.Proofs.Ytimonpoeieenpaa
