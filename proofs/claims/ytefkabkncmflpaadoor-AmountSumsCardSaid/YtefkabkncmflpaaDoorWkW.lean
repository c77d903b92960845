/-
  Walks: a text, a text read, and whether the calls wake.
-/
import Derived.Test.YtefkabkncmflpaaDoorWkI
import Derived.Deep.RegionWith
import Derived.Handy
namespace Go.Proofs.YtefkabkncmflpaaDoor
open Go.RowKit Go.Sort Go.Shelf

set_option maxHeartbeats 400000 in
theorem fmt_small (i : Nat) (w : World) (hi : i < 100) :
    Calls Tryd.prog 49 #[.int .u64 i, .int .i64 10] w fun e w' => e = .returned (.string ⟨(Lib.decDigits i).toArray⟩) ∧ w = w' := by
  have h0 : (0 : Int) ≤ i := by omega
  have h1 : (i : Int) < 100 := by omega
  go_enter Tryd.func49, Tryd.ntmps49
  go_wp2_with (first | (go_at_call 64; refine (Tryd.internal_strconv_small i hi _).mono ?_; rintro e w' ⟨rfl, hw⟩; subst hw) | go_in)
  go_ret
  exact ⟨rfl, rfl⟩

theorem fmt_zero (w : World) : Calls Tryd.prog 49 #[.int .u64 0, .int .i64 10] w fun e w' => e = .returned (.string ⟨#[48]⟩) ∧ w = w' := by
  have h := fmt_small 0 w (by omega)
  have e : (Lib.decDigits 0).toArray = #[48] := by simp [Lib.decDigits]
  rw [e] at h
  exact h

/-- Two new bytes as a string. -/
theorem conv_two (w _W : World) (b : Nat) (x y : Int) (hx : w.cell? ⟨b, 0, none⟩ = some (.int .u8 x)) (hy : w.cell? ⟨b, 1, none⟩ = some (.int .u8 y)) :
    (convert 77 9 (.slice (some ⟨b, 0, none⟩) 2 2)).run Tryd.prog w = .ok (.string ⟨#[UInt8.ofNat x.toNat, UInt8.ofNat y.toNat]⟩) w := by
  rw [run_convert_bytes_string w 77 9 5 (some ⟨b, 0, none⟩) 2 2 Tryd.underlying77 Tryd.underlying5 Tryd.underlying9]
  rw [run_bytesToString w ⟨b, 0, none⟩ 2 2 [x, y] (run_loadCells_list (P := Tryd.prog) w ⟨b, 0, none⟩ [.int .u8 x, .int .u8 y] (fun j v hv => by
    have hadd : (⟨b, 0, none⟩ : Addr).add j = ⟨b, j, none⟩ := by unfold Addr.add; split <;> simp_all
    rw [hadd]
    match j, hv with
    | 0, hv => simp at hv; rw [← hv]; exact hx
    | 1, hv => simp at hv; rw [← hv]; exact hy
    | n + 2, hv => simp at hv))]
  rfl
theorem conv_new (W : World) (x y : Int) : (convert 77 9 (.slice (some ⟨W.heap.size, 0, none⟩) 2 2)).run Tryd.prog (W.alloc (.cells #[.int .u8 x, .int .u8 y] 5)) = .ok (.string ⟨#[UInt8.ofNat x.toNat, UInt8.ofNat y.toNat]⟩) (W.alloc (.cells #[.int .u8 x, .int .u8 y] 5)) :=
  conv_two _ W _ x y (by simp [go_sem]) (by simp [go_sem])
theorem conv_drew (W : World) (x y : Int) : (convert 77 9 (.slice (some ⟨W.heap.size, 0, none⟩) 2 2)).run Tryd.prog (W.alloc (.cells #[.int .u8 x, .int .u8 y] 5)).drew = .ok (.string ⟨#[UInt8.ofNat x.toNat, UInt8.ofNat y.toNat]⟩) (W.alloc (.cells #[.int .u8 x, .int .u8 y] 5)).drew :=
  conv_two _ W _ x y (by simp [go_sem]) (by simp [go_sem])

set_option maxRecDepth 100000 in
set_option maxHeartbeats 400000 in
theorem text_five (w : World) :
    Calls Tryd.prog 27 #[.int .i64 (-5)] w fun e w' => e = .returned (.string ⟨#[45, 48, 46, 48, 53]⟩) ∧ Below w.heap.size w w' := by
  have kc := conv_drew
  have kd := conv_new
  have e0 : IntKind.u64.wrap 0 = 0 := by rw [IntKind.wrap_u64]; rfl
  have e1 : IntKind.u8.wrap 0 = 0 := by rw [IntKind.wrap_u8]; rfl
  have e2 : IntKind.u8.wrap 5 = 5 := by rw [IntKind.wrap_u8]; rfl
  have e3 : IntKind.u8.wrap (48 + 0) = 48 := by rw [IntKind.wrap_u8]; rfl
  have e4 : IntKind.u8.wrap (48 + 5) = 53 := by rw [IntKind.wrap_u8]; rfl
  have e5 : IntKind.u64.wrap 5 = 5 := by rw [IntKind.wrap_u64]; rfl
  go_enter Tryd.func27, Tryd.ntmps27
  go_wp2_with (first | (go_at_call 31; refine (size_neg (-5) _ (by omega) (by omega)).mono ?_; rintro e w' ⟨rfl, rfl⟩))
  go_region_with (go_at_call 49; refine (fmt_zero _).mono ?_; rintro e w' ⟨rfl, rfl⟩)
  all_goals
    go_wp2
    try simp only [Act.put, List.getElem_toArray, List.getElem_cons_zero, List.getElem_cons_succ]
    go_ret
    refine ⟨by kernel_rfl, ?_⟩
    go_grown

end Go.Proofs.YtefkabkncmflpaaDoor
