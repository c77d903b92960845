/-
  Walk: one list, cut at five days.
-/
import Derived.Test.YtfcgmhkfehcdaaaWkJ
import Derived.Test.YtfcgmhkfehcdaaaLib
namespace Go.Proofs.Ytfcgmhkfehcdaaa
open Go.RowKit Go.Sort

/-- What is collected behind so many rounds. -/
def got5 : Nat → List Int
  | 0 => [5, 9]
  | 1 => [5, 9, 7]
  | 2 => [5, 9, 7]
  | 3 => [5, 9, 7, 6]
  | 4 => [5, 9, 7, 6, 7]
  | _ => [5, 9, 7, 6, 7]
def ofL (l : List Int) : Nat → Int := fun i => l.getD i 0
def sorted5 : List Int := [5, 6, 7, 7, 9]
theorem sorted5_is : ([5, 9, 7, 6, 7] : List Int).mergeSort (fun x y => decide (x ≤ y)) = sorted5 := by simp [List.mergeSort, sorted5]
theorem compact5_is : Lib.compact sorted5 = [5, 6, 7, 9] := by decide

theorem first2 (w : World) : Mine (w.alloc (.cells #[.int .i64 5, .int .i64 9] 3)) w.heap.size (.slice (some ⟨w.heap.size, 0, none⟩) 2 2) 2 (ofL [5, 9]) :=
  ⟨rfl, .inr ⟨w.heap.size, 2, _, rfl, Nat.le_refl _, heap_alloc_new w _, Nat.le_refl _, by decide, rfl, rfl⟩⟩
theorem Mine.is {w : World} {B n : Nat} {v : Value} {G H : Nat → Int} (h : Mine w B v n G) (e : ∀ i, i < n → G i = H i) : Mine w B v n H := by
  have : valsOf n G = valsOf n H := by
    unfold valsOf
    refine List.map_congr_left fun i hi => ?_
    rw [e i (List.mem_range.1 hi)]
  unfold Mine at *
  rw [← this]
  exact h
/-- A list of its own as the sort takes it. -/
theorem Mine.holds {w : World} {B : Nat} {v : Value} {l : List Int} (h : Mine w B v l.length (ofL l)) (hl : l ≠ []) :
    ∃ g c, v = .slice (some ⟨g, 0, none⟩) l.length c ∧ B ≤ g ∧ g < w.heap.size ∧ l.length ≤ c ∧ Holds (Value.int .i64) w g 0 l.toArray := by
  rcases h.2 with ⟨_, e⟩ | ⟨g, cap, cur, rfl, hb, hg, hn, _, _, _⟩
  · exact absurd (List.length_eq_zero_iff.1 e) hl
  · refine ⟨g, cap, rfl, hb, (Array.getElem?_eq_some_iff.1 hg).1, hn, fun j hj => ?_⟩
    have hj' : j < l.length := by simpa using hj
    have h1 := h.cells (g := g) rfl j (.int .i64 (ofL l j)) (valsOf_get j hj')
    rw [add_head] at h1
    rw [Nat.zero_add]
    refine ⟨?_, by simp [World.frozen?, hg]⟩
    rw [h1]
    unfold ofL
    simp [List.getD_eq_getElem?_getD, hj']

theorem putRow_below {α : Type} [Inhabited α] {B : Nat} (enc : α → Value) (w : World) (blk off : Nat) (d : Array α) (h : B ≤ blk) : Go.RowKit.Below B w (putRow enc w blk off d) := by
  refine ⟨rfl, rfl, rfl, by simp [putRow, mapBlock], fun k hk => ?_⟩
  show ((w.heap.modify blk _)[k]?) = _
  rw [Array.getElem?_modify, if_neg (by omega)]
theorem ahead_below (B : Nat) (w : World) (n : Nat) : Go.RowKit.Below B w (Sort.ahead w n) := ⟨rfl, rfl, rfl, Nat.le_refl _, fun _ _ => rfl⟩
theorem grow_below {B : Nat} (w : World) (os : Array Obj) (h : B ≤ w.heap.size) : Go.RowKit.Below B w (grow w os) :=
  ⟨rfl, rfl, rfl, by simp [grow], fun k hk => heap_grow_old w os (by omega)⟩

theorem day5 (w : World) (g : Nat) (hg : ∀ i, i < 5 → w.cell? ⟨g, i, none⟩ = some (.int .i64 (ofL [7, 5, 6, 7, 12] i))) :
    w.cell? ⟨g, 0, none⟩ = some (.int .i64 7) ∧ w.cell? ⟨g, 1, none⟩ = some (.int .i64 5) ∧ w.cell? ⟨g, 2, none⟩ = some (.int .i64 6) ∧ w.cell? ⟨g, 3, none⟩ = some (.int .i64 7) ∧ w.cell? ⟨g, 4, none⟩ = some (.int .i64 12) :=
  ⟨hg 0 (by omega), hg 1 (by omega), hg 2 (by omega), hg 3 (by omega), hg 4 (by omega)⟩

theorem putRow_size {α : Type} [Inhabited α] (enc : α → Value) (w : World) (blk off : Nat) (d : Array α) : (putRow enc w blk off d).heap.size = w.heap.size := by simp [putRow, mapBlock]
theorem sort_w (g c : Nat) (w : World) (hlt : g < w.heap.size) (hH : Holds (Value.int .i64) w g 0 #[5, 9, 7, 6, 7]) :
    Calls Try.prog 19 #[.slice (some ⟨g, 0, none⟩) 5 c] w fun e w' => e = .returned (.tuple #[]) ∧ Holds (Value.int .i64) w' g 0 #[5, 6, 7, 7, 9] ∧ g < w'.heap.size ∧ Go.RowKit.Below g w w' := by
  refine (Try.slices_Sort_int g 0 c [5, 9, 7, 6, 7] w hH hlt (by decide)).mono ?_
  rintro e w' ⟨rfl, n, os, rfl⟩
  rw [sorted5_is]
  have hs : (putRow (Value.int .i64) (Sort.ahead w n) g 0 sorted5.toArray).heap.size = w.heap.size := putRow_size _ _ _ _ _
  refine ⟨rfl, ?_, ?_, ?_⟩
  · exact holds_grow _ _ _ _ _ _ (by rw [hs]; exact hlt) (holds_putRow _ _ _ _ #[5, 9, 7, 6, 7] _ (holds_ahead _ _ _ _ _ _ hH) rfl)
  · rw [size_grow, hs]; omega
  · exact ((ahead_below g w n).trans (putRow_below _ _ g _ _ (Nat.le_refl _))).trans (grow_below _ _ (by rw [hs]; omega))
theorem compact_w (g c : Nat) (w : World) (hlt : g < w.heap.size) (hc : 5 ≤ c) (hH : Holds (Value.int .i64) w g 0 #[5, 6, 7, 7, 9]) :
    Calls Try.prog 20 #[.slice (some ⟨g, 0, none⟩) 5 c] w fun e w' => e = .returned (.slice (some ⟨g, 0, none⟩) 4 c) ∧ (∀ i, i < 4 → w'.cell? ⟨g, i, none⟩ = some (.int .i64 (ofL [5, 6, 7, 9] i))) ∧ g < w'.heap.size ∧ Go.RowKit.Below g w w' := by
  refine (Try.slices_Compact_int g 0 c sorted5 w hH (by decide) hc).mono ?_
  rintro e w' ⟨rfl, n, rfl⟩
  rw [compact5_is]
  have hH2 := holds_putRow (Value.int .i64) (Sort.ahead w n) g 0 #[5, 6, 7, 7, 9] #[5, 6, 7, 9, 0] (holds_ahead _ _ _ _ _ _ hH) rfl
  refine ⟨rfl, ?_, ?_, ?_⟩
  · intro i hi
    have := (hH2 i (by simp; omega)).1
    rw [Nat.zero_add] at this
    have hi' : i = 0 ∨ i = 1 ∨ i = 2 ∨ i = 3 := by omega
    rcases hi' with rfl | rfl | rfl | rfl <;> exact this
  · rw [putRow_size]; exact hlt
  · exact (ahead_below g w n).trans (putRow_below _ _ g _ _ (Nat.le_refl _))

def Cut5 (w : World) (B : Nat) (t8 : Value) (k : Nat) : Prop := Mine w B t8 (got5 k).length (ofL (got5 k))

set_option maxRecDepth 100000 in
set_option maxHeartbeats 1000000 in
theorem cut_w (g : Nat) (w : World) (hlt : g < w.heap.size) (hg : ∀ i, i < 5 → w.cell? ⟨g, i, none⟩ = some (.int .i64 (ofL [7, 5, 6, 7, 12] i))) :
    Calls Try.prog 12 #[.int .i64 5, .int .i64 9, .slice (some ⟨g, 0, none⟩) 5 5] w (Res w 4 (ofL [5, 6, 7, 9]) 0) := by
  obtain ⟨i0, hi, hz0, hz1, hz2⟩ := info_parts info3
  have HG := Lib.hid hg
  have S := Lib.hid (fun w => isStretch_any 5 9 w)
  rw [show decide (Stretch 5 9) = true from rfl] at S
  have F2 := Lib.hid (first2 w)
  clear hg
  go_enter Try.func12, Try.ntmps12
  go_wp2_with (first | (go_at_call 14; refine (S.out _).mono ?_; rintro e w2 ⟨rfl, rfl⟩))
  go_loopw [8, 20] (fun t8 t20 wr => ∃ k : Nat, k ≤ 5 ∧ t20 = .int .i64 k ∧ Hid (Cut5 wr w.heap.size t8 k) ∧ Below w.heap.size w wr) (fun _ t20 _ => 5 - (intOf t20).toNat)
  case atStart => exact ⟨0, by omega, rfl, F2, (Below.refl _ _).alloc (Nat.le_refl _) _⟩
  case round =>
    obtain ⟨k, hk, rfl, hown, hbl⟩ := hrel
    have BS := Lib.hid hbl.size
    have ht : k = 0 ∨ k = 1 ∨ k = 2 ∨ k = 3 ∨ k = 4 ∨ k = 5 := by omega
    rcases ht with rfl | rfl | rfl | rfl | rfl | rfl
    · have hc : wr.cell? ⟨g, 0, none⟩ = some (.int .i64 7) := by rw [hbl.cell (p := ⟨g, 0, none⟩) hlt]; exact HG.out 0 (by omega)
      have hm : Hid (Mine wr w.heap.size u8 2 (ofL (got5 0))) := hown
      clear hown
      have NC := Lib.hid (new_cell wr 7 3)
      go_wp2_with (at_builtin; refine wpList_append_own _ rfl (.tmp 32) (.tmp 34) 29 rfl w.heap.size 3 i0 (.int .i64 0) 1 8 Try.underlying29 hi hz0 hz1 hz2 rfl (by decide) _ 2 _ rfl (hm.out.alloc _) ⟨wr.heap.size, 0, none⟩ 1 1 [.int .i64 7] rfl rfl NC.out (by simp [Value.oneCell']) (by unfold maxLen; omega) (by omega) (by rw [World.size_alloc]; have := BS.out; omega) ?_; intro v' w4 q1 q2 q3; obtain ⟨m1, m2⟩ := hm.out.grow (H := ofL (got5 1)) hbl BS.out q1 q2 rfl; have M1 : Hid (Cut5 w4 w.heap.size v' 1) := Lib.hid m1; clear q1 q2 q3 m1)
      go_roundw
      case rel => exact ⟨1, by omega, rfl, M1, m2⟩
      case measure => simp [intOf]
    · have hc : wr.cell? ⟨g, 1, none⟩ = some (.int .i64 5) := by rw [hbl.cell (p := ⟨g, 1, none⟩) hlt]; exact HG.out 1 (by omega)
      have hm : Hid (Mine wr w.heap.size u8 3 (ofL (got5 1))) := hown
      clear hown
      have M1 : Hid (Cut5 wr w.heap.size u8 2) := hm
      go_wp2_with fail
      go_roundw
      case rel => exact ⟨2, by omega, rfl, M1, hbl⟩
      case measure => simp [intOf]
    · have hc : wr.cell? ⟨g, 2, none⟩ = some (.int .i64 6) := by rw [hbl.cell (p := ⟨g, 2, none⟩) hlt]; exact HG.out 2 (by omega)
      have hm : Hid (Mine wr w.heap.size u8 3 (ofL (got5 2))) := hown
      clear hown
      have NC := Lib.hid (new_cell wr 6 3)
      go_wp2_with (at_builtin; refine wpList_append_own _ rfl (.tmp 32) (.tmp 34) 29 rfl w.heap.size 3 i0 (.int .i64 0) 1 8 Try.underlying29 hi hz0 hz1 hz2 rfl (by decide) _ 3 _ rfl (hm.out.alloc _) ⟨wr.heap.size, 0, none⟩ 1 1 [.int .i64 6] rfl rfl NC.out (by simp [Value.oneCell']) (by unfold maxLen; omega) (by omega) (by rw [World.size_alloc]; have := BS.out; omega) ?_; intro v' w4 q1 q2 q3; obtain ⟨m1, m2⟩ := hm.out.grow (H := ofL (got5 3)) hbl BS.out q1 q2 rfl; have M1 : Hid (Cut5 w4 w.heap.size v' 3) := Lib.hid m1; clear q1 q2 q3 m1)
      go_roundw
      case rel => exact ⟨3, by omega, rfl, M1, m2⟩
      case measure => simp [intOf]
    · have hc : wr.cell? ⟨g, 3, none⟩ = some (.int .i64 7) := by rw [hbl.cell (p := ⟨g, 3, none⟩) hlt]; exact HG.out 3 (by omega)
      have hm : Hid (Mine wr w.heap.size u8 4 (ofL (got5 3))) := hown
      clear hown
      have NC := Lib.hid (new_cell wr 7 3)
      go_wp2_with (at_builtin; refine wpList_append_own _ rfl (.tmp 32) (.tmp 34) 29 rfl w.heap.size 3 i0 (.int .i64 0) 1 8 Try.underlying29 hi hz0 hz1 hz2 rfl (by decide) _ 4 _ rfl (hm.out.alloc _) ⟨wr.heap.size, 0, none⟩ 1 1 [.int .i64 7] rfl rfl NC.out (by simp [Value.oneCell']) (by unfold maxLen; omega) (by omega) (by rw [World.size_alloc]; have := BS.out; omega) ?_; intro v' w4 q1 q2 q3; obtain ⟨m1, m2⟩ := hm.out.grow (H := ofL (got5 4)) hbl BS.out q1 q2 rfl; have M1 : Hid (Cut5 w4 w.heap.size v' 4) := Lib.hid m1; clear q1 q2 q3 m1)
      go_roundw
      case rel => exact ⟨4, by omega, rfl, M1, m2⟩
      case measure => simp [intOf]
    · have hc : wr.cell? ⟨g, 4, none⟩ = some (.int .i64 12) := by rw [hbl.cell (p := ⟨g, 4, none⟩) hlt]; exact HG.out 4 (by omega)
      have hm : Hid (Mine wr w.heap.size u8 5 (ofL (got5 4))) := hown
      clear hown
      have M1 : Hid (Cut5 wr w.heap.size u8 5) := hm
      go_wp2_with fail
      go_roundw
      case rel => exact ⟨5, by omega, rfl, M1, hbl⟩
      case measure => simp [intOf]
    · have hm : Mine wr w.heap.size u8 [5, 9, 7, 6, 7].length (ofL [5, 9, 7, 6, 7]) := hown.out
      obtain ⟨gb, c, rfl, h1, h2, h3, h4⟩ := hm.holds (by simp)
      have h4' : Holds (Value.int .i64) wr gb 0 #[5, 9, 7, 6, 7] := h4
      have SW := Lib.hid (sort_w gb c wr h2 h4')
      clear hown hm h4 h4'
      simp only [List.length_cons, List.length_nil, Nat.zero_add, Nat.reduceAdd] at h3 ⊢
      go_wp2_with (first
        | (go_at_call 19; refine SW.out.mono ?_; rintro e w3 ⟨rfl, s1, s2, s3⟩; have CW := Lib.hid (compact_w gb c w3 s2 h3 s1); clear s1)
        | (go_at_call 20; refine CW.out.mono ?_; rintro e w4 ⟨rfl, t1, t2, t3⟩; have T1 := Lib.hid t1; clear t1))
      go_ret2
      exact ⟨_, _, rfl, .inr ⟨gb, rfl, h1, t2, T1.out⟩, hbl.trans ((s3.trans t3).mono h1)⟩

end Go.Proofs.Ytfcgmhkfehcdaaa
