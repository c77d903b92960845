/-
  Walks: greatestFirst at any length up to 1024 places.
-/
import Derived.Test.YtefkabkncmflpaaDoorWkZa
import Derived.Test.YtefkabkncmflpaaDoorWkH
namespace Go.Proofs.YtefkabkncmflpaaDoor
open Go.RowKit Go.Sort Go.Shelf

variable {m : Nat}

set_option maxHeartbeats 400000 in
theorem sort_any (r : Pl m → Int) (cf : Pl m → Pl m → Int) (hcf : ∀ x y, ltOf cf x y = decide (r y < r x)) (g : Nat) (cb : Array Value) (blk cap M : Nat) (hM : m + 1 = M) (d : Array (Pl m)) (w : World) (hm : M ≤ 1024) (hblk : blk < w.heap.size)
    (eg : ∀ args w, (callFunc g args).run Tryd.prog w = .ok (.enter g args) w) (hcmp : CmpReads Tryd.prog g cb encP cf blk 0 M w) (hH : Holds encP w blk 0 d) (hs : d.size = M) (hid : ∀ p, p < M → d[p]!.val = p) :
    Calls Tryd.prog 59 #[.slice (some ⟨blk, 0, none⟩) M cap, .func (.func g) #[] cb] w (Sorted r w blk M) := by
  have HS := Lib.hid (stable_any r cf hcf g cb blk cap M hM d w hm hblk eg hcmp hH hs hid)
  have HM := Lib.hid hM
  clear hcmp hH hid hM hs
  go_enter Tryd.func59, Tryd.ntmps59
  go_wp2_with (go_at_call 69; refine HS.out.mono ?_; rintro e w' ⟨rfl, d', n, hw, h1, h2, h3⟩; have HW := Lib.hid (And.intro hw (And.intro h1 (And.intro h2 h3))); clear hw h1 h2 h3)
  go_end0
  exact ⟨rfl, d', n, HW.out⟩

set_option maxRecDepth 100000 in
set_option maxHeartbeats 1000000 in
theorem greatest_any (h1024 : m + 1 ≤ 1024) : Greatest m := by
  intro r gr cap M hM w hgr hr
  have hm : M ≤ 1024 := by omega
  obtain ⟨i0, hi, hz0, hz1, hz2⟩ := info_parts info3
  have HM := Lib.hid hM
  have HR := Lib.hid hr
  have M0 : 1 ≤ M := by omega
  clear hM hr h1024
  go_enter Tryd.func53, Tryd.ntmps53
  go_wp2_with (at_make; refine wpList_make_row _ rfl _ _ 85 rfl 3 i0 (.int .i64 0) Tryd.underlying85 hi hz0 hz1 rfl .i64 .i64 M rfl rfl (by rw [hz2]; omega) (by omega) ?_)
  go_loopw [10] (fun t10 wr => ∃ k : Nat, k ≤ M ∧ t10 = .int .i64 k ∧ wr.rowIs (w.heap.size + 1) 3 M (fun i => .int .i64 (if i < k then (i : Int) else 0)) ∧ wr.cell? ⟨w.heap.size, 0, none⟩ = some (.slice (some ⟨gr, 0, none⟩) M cap) ∧ w.heap.size + 1 < wr.heap.size ∧ Below w.heap.size w wr) (fun t10 _ => M - (intOf t10).toNat)
  case atStart =>
    refine ⟨0, by omega, rfl, ?_, ?_, ?_, ?_⟩
    · have := World.rowIs_made (w.alloc (.cells #[.slice (some ⟨gr, 0, none⟩) M cap] 84)) (.int .i64 0) M 3
      simp only [World.size_alloc] at this
      exact this.congr fun i _ => by simp
    · simp [go_sem]
    · simp
    · exact ((Below.refl _ _).alloc (Nat.le_refl _) _).alloc (by simp) _
  case round =>
    obtain ⟨k, hk, rfl, r1, hc, hsz, hbl⟩ := hrel
    by_cases hlt : k < M
    · have c1 := r1.cell hlt
      have f1 := r1.frozen k
      have R1 := Lib.hid r1
      have HC := Lib.hid hc
      clear r1 hc
      go_wp2
      go_roundw
      case rel =>
        refine ⟨k + 1, by omega, by go_num, ?_, ?_, ?_, ?_⟩
        · refine (R1.out.set k _).congr fun i hi => ?_
          by_cases h1 : i = k
          · subst h1; simp
          · simp only [if_neg h1]
            by_cases h2 : i < k
            · rw [if_pos h2, if_pos (by omega)]
            · rw [if_neg h2, if_neg (by omega)]
        · rw [World.cell?_setCell_other _ _ _ _ (by simp)]; exact HC.out
        · simpa [World.setCell] using hsz
        · exact hbl.setCell (by simp) _
      case measure => simp [intOf]; omega
    · obtain rfl : k = M := by omega
      have HL := Lib.hid (holds_ids HM.out r1)
      have HRD := Lib.hid (reads_places r w.heap.size gr cap (w.heap.size + 1) wr k HM.out (by omega) (by omega) (by have := hbl.size; omega) (by omega) (by omega) hc (fun i => by rw [hbl.cell (p := ⟨gr, i.val, none⟩) hgr]; exact HR.out i))
      have R1 := Lib.hid r1
      have HSZ := Lib.hid hsz
      clear r1 hc
      go_wp2_with (go_at_call 59; refine (sort_any r (cfR r) (cfR_lt r) 60 _ (w.heap.size + 1) k k HM.out (ids m) _ hm HSZ.out enters_closure HRD.out HL.out (by rw [ids_size]; exact HM.out) (fun p hp => ids_get p (by have := HM.out; omega))).mono ?_; rintro e w' ⟨rfl, d', n, hw, h1, h2, h3⟩; have HW := Lib.hid (And.intro hw (And.intro h1 (And.intro h2 h3))); clear hw h1 h2 h3)
      go_ret
      refine ⟨w.heap.size + 1, d', rfl, ?_, by omega, ?_, HW.out.2⟩
      · rw [HW.out.1]; exact (hbl.trans ((putRow_below _ _ _ (by omega)).trans (drewN_below _ _ _)))
      · rw [HW.out.1]; exact row_putRow R1.out HW.out.2.1 n

end Go.Proofs.YtefkabkncmflpaaDoor
