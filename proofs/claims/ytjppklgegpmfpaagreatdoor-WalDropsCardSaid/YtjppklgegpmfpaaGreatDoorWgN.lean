/-
  Walks: lists of records alike; a plan copied; the plan of a disk that refuses nothing.
-/
import Derived.Test.YtjppklgegpmfpaaGreatDoorWgM
namespace Go.Proofs.YtjppklgegpmfpaaGreatDoor
open Go.RowKit
open Go.Maps

def AllBys (w : World) (T : List Sl) : Prop := ∀ s ∈ T, Bys w s.a s.l
theorem rows_bys {w : World} {B : Nat} {T : List Sl} (h : ∀ s ∈ T, Row w B s.a s.c s.l) : AllBys w T := fun s hs => (h s hs).lies
theorem AllIn.bys {w : World} {T : List Sl} (h : AllIn w T) : AllBys w T := fun s hs => (h s hs).bys
set_option maxRecDepth 100000 in
set_option maxHeartbeats 2000000 in
theorem ssame_any (A C : Option Addr) (T U : List Sl) (n m c d : Nat) (w : World) (hn : T.length = n) (hm : U.length = m) (hc : n ≤ 9223372036854775807) (h : Lies w A (svals T)) (g : Lies w C (svals U)) (hT : AllBys w T) (hU : AllBys w U) (he : byts T = byts U) :
    Calls Tryz.prog 15 #[.slice A n c, .slice C m d] w fun e w' => e = .returned (.bool true) ∧ ∃ k, w' = w.drewN k := by
  have hnm : n = m := by rw [← hn, ← hm, ← byts_len T, he, byts_len]
  subst hnm
  have HA := Lib.hid h
  have HC := Lib.hid g
  have HT := Lib.hid hT
  have HU := Lib.hid hU
  have HN := Lib.hid hn
  have HM := Lib.hid hm
  have HE := Lib.hid he
  clear h g hT hU hn hm he
  go_enter Tryz.func15, Tryz.ntmps15
  go_wp2_with fail
  go_loopw [13] (fun t13 wr => ∃ k m : Nat, k ≤ n ∧ t13 = .int .i64 k ∧ wr = w.drewN m) (fun t13 _ => n - (intOf t13).toNat)
  case atStart => exact ⟨0, 0, by omega, rfl, rfl⟩
  case round =>
    obtain ⟨k, m, hk, rfl, rfl⟩ := hrel
    by_cases hlt : k < n
    · have hs := List.getElem?_eq_getElem (l := T) (i := k) (by have := HN.out; omega)
      generalize T[k]'(by have := HN.out; omega) = s at hs
      have hu := List.getElem?_eq_getElem (l := U) (i := k) (by have := HM.out; omega)
      generalize U[k]'(by have := HM.out; omega) = u at hu
      have e1 := byts_of hs
      rw [HE.out, byts_of hu] at e1
      injection e1 with e1
      obtain ⟨ad, rfl, a0⟩ := lies_at HA.out hs
      obtain ⟨bd, rfl, b0⟩ := lies_at HC.out hu
      have v1 := HT.out s (List.mem_of_getElem? hs)
      have v2 := HU.out u (List.mem_of_getElem? hu)
      obtain ⟨sa, sc, sl⟩ := s
      obtain ⟨ua, uc, ul⟩ := u
      simp only at e1 a0 b0 v1 v2
      subst e1
      obtain ⟨q, hq⟩ : ∃ q, ul.length = q := ⟨_, rfl⟩
      rw [hq] at a0 b0
      have k1 : ∀ j, (convert 35 9 (.slice sa q sc)).run Tryz.prog (w.drewN j) = .ok (.string (strOfNums ul)) (w.drewN j) := fun j => conv_any (w := w.drewN j) v1 q sc hq
      have k2 : ∀ j, (convert 35 9 (.slice ua q uc)).run Tryz.prog (w.drewN j) = .ok (.string (strOfNums ul)) (w.drewN j) := fun j => conv_any (w := w.drewN j) v2 q uc hq
      clear hs hu v1 v2 hq
      go_upto_region 6 with fail
      go_quiet (fail)
      go_wp2_with fail
      go_roundw
      case rel => exact ⟨k + 1, m + nq, by omega, by go_num, rfl⟩
      case measure => simp [intOf]; omega
    · clear HA HC HT HU
      go_wp2_with fail
      go_ret
      exact ⟨rfl, m, rfl⟩
set_option maxRecDepth 100000 in
set_option maxHeartbeats 4000000 in
theorem plan_any (ops room : Int) (A : Option Addr) (keep : List Int) (n c : Nat) (w : World) (hn : keep.length = n) (hk : Ints w A keep) (hl : n * 8 ≤ 140737488355328) :
    Calls Tryz.prog 9 #[.agg #[.int .i64 ops, .int .i64 room, .slice A n c]] w fun e w' => ∃ A' c', e = .returned (.agg #[.int .i64 ops, .int .i64 room, .slice A' n c']) ∧ Irow w' w.heap.size A' c' keep ∧ Below w.heap.size w w' := by
  have HK := Lib.hid (fun (W : World) (hb : Below w.heap.size w W) => (Lies.kept hk hb : Ints W A keep))
  have HN := Lib.hid (And.intro hn hl)
  clear hn hk hl
  go_enter Tryz.func9, Tryz.ntmps9
  go_upto_region 1 with fail
  obtain ⟨w2, hw2⟩ : ∃ w2, ((w.alloc (.cells #[.int .i64 ops, .int .i64 room, .slice A n c] 25)).alloc (.cells #[.int .i64 0, .int .i64 0, .slice none 0 0] 25)) = w2 := ⟨_, rfl⟩
  have HB2 : Hid (Below w.heap.size w w2) := Lib.hid (hw2 ▸ (below_new _ _).alloc (by simp) _)
  have HS2 : Hid (w2.heap.size = w.heap.size + 2) := Lib.hid (by rw [← hw2]; simp)
  have HR0 : Hid (w2.heap[w.heap.size]? = some (.cells #[.int .i64 ops, .int .i64 room, .slice A n c] 25 (0, 0))) := Lib.hid (by
    rw [← hw2, RowKit.Below.heap_alloc _ _ _ (by simp)]
    exact heap_alloc_new w _)
  have HR1 : Hid (w2.heap[w.heap.size + 1]? = some (.cells #[.int .i64 0, .int .i64 0, .slice none 0 0] 25 (0, 0))) := Lib.hid (by
    have := heap_alloc_new (w.alloc (.cells #[.int .i64 ops, .int .i64 room, .slice A n c] 25)) (.cells #[.int .i64 0, .int .i64 0, .slice none 0 0] 25)
    rw [hw2, show (w.alloc (.cells #[.int .i64 ops, .int .i64 room, .slice A n c] 25)).heap.size = w.heap.size + 1 by simp] at this
    exact this)
  rw [hw2]
  clear hw2
  have HCC := Lib.hid (fun (W : World) (hb : Below w2.heap.size w2 W) => (show W.cell? ⟨w.heap.size, 0, none⟩ = some (.int .i64 ops) ∧ W.cell? ⟨w.heap.size, 1, none⟩ = some (.int .i64 room) ∧ W.cell? ⟨w.heap.size, 2, none⟩ = some (.slice A n c) ∧ W.frozen? ⟨w.heap.size, 2, none⟩ = false ∧ W.heap[w.heap.size]? = some (.cells #[.int .i64 ops, .int .i64 room, .slice A n c] 25 (0, 0)) ∧ W.heap[w.heap.size + 1]? = some (.cells #[.int .i64 0, .int .i64 0, .slice none 0 0] 25 (0, 0)) from by
    have h0 := (hb.block w.heap.size (by have := HS2.out; omega)).trans HR0.out
    have h1 := (hb.block (w.heap.size + 1) (by have := HS2.out; omega)).trans HR1.out
    refine ⟨?_, ?_, ?_, ?_, h0, h1⟩ <;> simp [World.cell?, World.frozen?, h0]))
  obtain ⟨z0, z1, z2, z3, -, -⟩ := HCC.out _ (below_new w2 (.cells #[] 3))
  have RI := Lib.hid (irow_made w2)
  have BI : Hid (Below w2.heap.size w2 (w2.alloc (.cells #[] 3))) := Lib.hid (below_new _ _)
  go_upto_region 2 with (at_builtin; refine wpList_append_irow _ rfl (.tmp 3) (.tmp 5) rfl w2.heap.size _ 0 keep A n c rfl rfl HN.out.1 RI.out (HK.out _ (HB2.out.trans (BI.out.mono HB2.out.size))) (by simp) (by have := HN.out.2; omega) ?_; intro A6 c6 w6 r6 b6; have R6 := Lib.hid r6; have B6 : Hid (Below w2.heap.size w2 w6) := Lib.hid (BI.out.trans b6); obtain ⟨y0, y1, y2, y3, y4, y5⟩ := HCC.out _ B6.out; clear r6 b6)
  have HX0 : Hid ((w6.setCell ⟨w.heap.size, 2, none⟩ (.slice A6 n c6)).heap[w.heap.size]? = some (.cells #[.int .i64 ops, .int .i64 room, .slice A6 n c6] 25 (0, 0))) := Lib.hid (by simp [World.setCell, Array.getElem?_modify, y4])
  have HX1 : Hid ((w6.setCell ⟨w.heap.size, 2, none⟩ (.slice A6 n c6)).heap[w.heap.size + 1]? = some (.cells #[.int .i64 0, .int .i64 0, .slice none 0 0] 25 (0, 0))) := Lib.hid ((Below.heap_setCell w6 ⟨w.heap.size, 2, none⟩ _ _ (by simp)).trans y5)
  have HXB : Hid (Below w.heap.size w (w6.setCell ⟨w.heap.size, 2, none⟩ (.slice A6 n c6))) := Lib.hid ((HB2.out.trans (B6.out.mono HB2.out.size)).setCell (Nat.le_refl _) _)
  have HXR : Hid (Irow (w6.setCell ⟨w.heap.size, 2, none⟩ (.slice A6 n c6)) w2.heap.size A6 c6 keep) := Lib.hid (by
    have := R6.out
    unfold Irow at this ⊢
    refine own_block this (fun ad ha => Below.heap_setCell w6 ⟨w.heap.size, 2, none⟩ _ _ (fun e => ?_))
    have h1 := (own_in this ad ha).1
    have := HS2.out
    simp only at e
    omega)
  clear y0 y1 y2 y3 y4 y5
  generalize (w6.setCell ⟨w.heap.size, 2, none⟩ (.slice A6 n c6)) = w7 at HX0 HX1 HXB HXR ⊢
  have x0 : w7.cell? ⟨w.heap.size, 0, none⟩ = some (.int .i64 ops) := by simp [World.cell?, HX0.out]
  have x1 : w7.cell? ⟨w.heap.size, 1, none⟩ = some (.int .i64 room) := by simp [World.cell?, HX0.out]
  have x2 : w7.cell? ⟨w.heap.size, 2, none⟩ = some (.slice A6 n c6) := by simp [World.cell?, HX0.out]
  have v0 : w7.cell? ⟨w.heap.size + 1, 0, none⟩ = some (.int .i64 0) := by simp [World.cell?, HX1.out]
  have v1 : w7.cell? ⟨w.heap.size + 1, 1, none⟩ = some (.int .i64 0) := by simp [World.cell?, HX1.out]
  have v2 : w7.cell? ⟨w.heap.size + 1, 2, none⟩ = some (.slice none 0 0) := by simp [World.cell?, HX1.out]
  have u0 : w7.frozen? ⟨w.heap.size + 1, 0, none⟩ = false := by simp [World.frozen?, HX1.out]
  have u1 : w7.frozen? ⟨w.heap.size + 1, 1, none⟩ = false := by simp [World.frozen?, HX1.out]
  have u2 : w7.frozen? ⟨w.heap.size + 1, 2, none⟩ = false := by simp [World.frozen?, HX1.out]
  go_wp2_with fail
  try simp only [Exit.inBlock, Exit.then]
  refine bodyPost_ret (v := .agg #[.int .i64 ops, .int .i64 room, .slice A6 n c6]) ?_ rfl ?_
  · unfold results
    go_simp
  · refine ⟨A6, c6, rfl, ?_, ((HXB.out.setCell (Nat.le_succ _) _).setCell (Nat.le_succ _) _).setCell (Nat.le_succ _) _⟩
    have h8 := HXR.out
    refine own_mono (C := w.heap.size) (own_block h8 (fun ad ha => ?_)) HB2.out.size
    have h1 := (own_in h8 ad ha).1
    have := HS2.out
    have hne : ad.block ≠ w.heap.size + 1 := by omega
    exact (Below.heap_setCell _ ⟨w.heap.size + 1, 2, none⟩ _ _ hne).trans ((Below.heap_setCell _ ⟨w.heap.size + 1, 1, none⟩ _ _ hne).trans (Below.heap_setCell _ ⟨w.heap.size + 1, 0, none⟩ _ _ hne))

theorem calm_any (w : World) : Calls Tryz.prog 14 #[] w fun e w' => e = .returned (.agg #[.int .i64 (-1), .int .i64 (-1), .slice none 0 0]) ∧ Below w.heap.size w w' := by
  have HB := Lib.hid (below_new w (.cells #[.int .i64 0, .int .i64 0, .slice none 0 0] 25))
  go_enter Tryz.func14, Tryz.ntmps14
  go_wp2_with fail
  try simp only [Exit.inBlock, Exit.then]
  refine bodyPost_ret (v := .agg #[.int .i64 (-1), .int .i64 (-1), .slice none 0 0]) ?_ rfl ?_
  · unfold results
    go_simp
  · exact ⟨rfl, by repeat (first | exact HB.out | exact below_new _ _ | refine below_set ?_ (Nat.le_refl _))⟩

end Go.Proofs.YtjppklgegpmfpaaGreatDoor
