/-
  Walks: strconv.FormatUint in tens, for every word: the decimal numeral.
-/
import Derived.Test.YtefkabkncmflpaaDoorWkM
import Derived.Test.YtefkabkncmflpaaDoorLib
import Derived.Lib.ItoaMem
import Derived.Lib.ItoaLen
import Derived.Deep.RegionWith
import Derived.Handy
namespace Go.Proofs.YtefkabkncmflpaaDoor
open Go.RowKit Go.Sort Go.Shelf

abbrev byteV : UInt8 → Value := fun b => Value.int .u8 (b.toNat : Int)

theorem zeros_hold (w : World) (T : TypeId) (nd : Nat) (hs : nd ≤ 24) : Holds byteV (w.alloc (.cells Lib.zeros24 T)) w.heap.size 0 (Array.replicate nd (0 : UInt8)) := by
  intro j hj
  have hj' : j < nd := by simpa using hj
  constructor
  · rw [World.cell?_alloc_new, Lib.zeros24_at _ (by omega), getElem!_pos _ j hj]
    simp
  · exact World.frozen?_alloc_new _ _ _ _

theorem below_row (w : World) (o : Obj) (dk : Array UInt8) (k : Nat) : Below w.heap.size w ((putRow byteV (w.alloc o) w.heap.size 0 dk).drewN k) := by
  have h : w.alloc o = grow w #[o] := alloc_eq_grow _ _
  obtain ⟨os, -, e⟩ := putRow_grow_new byteV w #[o] w.heap.size 0 dk (Nat.le_refl _)
  rw [h, e]
  refine Below.trans (b := grow w os) ?_ (drewN_below _ _ _)
  exact ⟨rfl, rfl, rfl, by simp [grow], fun k hk => heap_grow_old w os hk⟩

set_option maxRecDepth 100000 in
theorem ifmt_big (u : Nat) (w : World) (h100 : 100 ≤ u) (hu : u < 18446744073709551616) (htab : Lib.TabIs Tryd.prog w "internal/strconv.uint64pow10" .u64 Lib.pow10Tab) :
    Calls Tryd.prog 57 #[.int .u64 u, .int .i64 10] w fun e w' => e = .returned (.string ⟨(Lib.decDigits u).toArray⟩) ∧ Below w.heap.size w w' := by
  have hn := Lib.nDigits_le20 u hu
  have hH0 := zeros_hold w 95 (Lib.nDigits u) (by omega)
  have hfmt := Tryd.internal_strconv_formatBase10 w.heap.size 0 24 u (Array.replicate (Lib.nDigits u) 0) (w.alloc (.cells Lib.zeros24 95)) hH0 (by rw [Array.size_replicate]; exact Lib.lt_pow_nDigits u) hu (by rw [Array.size_replicate]; omega)
  rw [Array.size_replicate] at hfmt
  have hsl : ∀ W, (Instr.sliceAt 95 (.pointer (some ⟨w.heap.size, 0, none⟩)) none (some (.int .i64 (Lib.nDigits u : Int))) none).run Tryd.prog W = .ok (.slice (some ⟨w.heap.size, 0, none⟩) (Lib.nDigits u) 24) W := fun W => by
    rw [run_sliceAt_array_h W 95 ⟨w.heap.size, 0, none⟩ (by kernel_rfl) .i64 (Lib.nDigits u : Int) (by omega) (by rw [show Tryd.prog.arrayLen 95 = 24 by kernel_rfl]; omega)]
    rw [show Tryd.prog.arrayLen 95 = 24 by kernel_rfl]
    go_simp
    try rfl
  have hcv : ∀ k v' dk, Lib.FmtInv (Lib.nDigits u) u 0 v' dk → (convert 77 9 (.slice (some ⟨w.heap.size, 0, none⟩) (Lib.nDigits u) 24)).run Tryd.prog ((putRow byteV (w.alloc (.cells Lib.zeros24 95)) w.heap.size 0 dk).drewN k) = .ok (.string ⟨(Lib.decDigits u).toArray⟩) ((putRow byteV (w.alloc (.cells Lib.zeros24 95)) w.heap.size 0 dk).drewN k) := by
    intro k v' dk hF
    have h := run_convert_bytes_back (P := Tryd.prog) ((putRow byteV (w.alloc (.cells Lib.zeros24 95)) w.heap.size 0 dk).drewN k) 77 9 5 ⟨w.heap.size, 0, none⟩ 24 (Lib.decDigits u) Tryd.underlying77 Tryd.underlying5 Tryd.underlying9 (fun j hj => by
      rw [Lib.add_plain, Lib.row_is_numeral hF j hj, World.cell?_drewN]
      exact cell?_putRow byteV _ w.heap.size 0 _ dk hH0 (by rw [hF.size, Array.size_replicate]) j (by rw [hF.size]; rw [Lib.decDigits_length] at hj; exact hj))
    rw [Lib.decDigits_length] at h
    exact h
  have c1 : ¬ (u : Int) < 100 := by omega
  have HH := Lib.hid hH0
  clear hH0
  go_enter Tryd.func57, Tryd.ntmps57
  go_wp2_with (first
    | (go_at_call 65; refine (Tryd.internal_strconv_numDigits u (by omega) hu _ (Lib.tabIs_alloc htab _)).mono ?_; rintro e w' ⟨rfl, rfl⟩))
  go_at_call 66
  refine hfmt.mono ?_
  rintro e w' ⟨rfl, k, v', dk, rfl, hF⟩
  have hc := hcv k v' dk hF
  clear hcv
  go_wp2
  go_ret
  exact ⟨rfl, below_row _ _ _ _⟩

set_option maxHeartbeats 400000 in
theorem fmt_big (u : Nat) (w : World) (h100 : 100 ≤ u) (hu : u < 18446744073709551616) (htab : Lib.TabIs Tryd.prog w "internal/strconv.uint64pow10" .u64 Lib.pow10Tab) :
    Calls Tryd.prog 49 #[.int .u64 u, .int .i64 10] w fun e w' => e = .returned (.string ⟨(Lib.decDigits u).toArray⟩) ∧ Below w.heap.size w w' := by
  go_enter Tryd.func49, Tryd.ntmps49
  go_wp2_with (go_at_call 57; refine (ifmt_big u _ h100 hu htab).mono ?_; rintro e w' ⟨rfl, hb⟩)
  go_ret
  exact ⟨rfl, hb⟩

end Go.Proofs.YtefkabkncmflpaaDoor
