/-
  Walks: the file that takes a segment's place; is it full; which segment is next; what a log is, over its disk.
-/
import Derived.Test.YtjppklgegpmfpaaGreatDoorWgB
namespace Go.Proofs.YtjppklgegpmfpaaGreatDoor
open Go.RowKit
open Go.Maps

set_option maxHeartbeats 2000000 in
theorem temp_any (lb g : Nat) (l : Lg) (w : World) (hp : IsPre l.p) (h : LgAt w lb g l) :
    Calls Tryz.prog 37 #[.pointer (some ⟨lb, 0, none⟩)] w fun e w' => e = .returned (.string (tmp l.p)) ∧ w = w' := by
  have hps := hp.high
  have E := str_add l.p ⟨#[46, 116, 109, 112]⟩ (by show l.p.size + 4 ≤ _; omega)
  rw [tmp_made] at E
  obtain ⟨sg, hsg⟩ : ∃ sg, tmp l.p = sg := ⟨_, rfl⟩
  rw [hsg] at E
  rw [hsg]
  obtain ⟨-, c1, -⟩ := h.cell
  clear h hps hsg
  go_enter Tryz.func37, Tryz.ntmps37
  go_wp2
  go_ret
  exact ⟨rfl, rfl⟩

set_option maxHeartbeats 2000000 in
theorem isFull_any (lb g : Nat) (l : Lg) (w : World) (h : LgAt w lb g l) :
    Calls Tryz.prog 31 #[.pointer (some ⟨lb, 0, none⟩)] w fun e w' => e = .returned (.bool (decide (l.size ≤ l.len))) ∧ Below w.heap.size w w' := by
  have HC := Lib.hid (fun (k : Nat) => (h.kept (below_drewN (Below.refl w.heap.size w) k)).cell)
  obtain ⟨p, size, num, len⟩ := l
  have HE : Hid (decide ((size : Int) ≤ (len : Int)) = decide (size ≤ len)) := Lib.hid (by simp)
  obtain ⟨-, -, c2, -, c4⟩ := h.cell
  simp only at c2 c4
  clear h
  go_enter Tryz.func31, Tryz.ntmps31
  go_upto_region 1 with fail
  go_quiet (fail)
  go_wp2_with fail
  go_ret
  exact ⟨by first | rfl | (congr 2; exact HE.out) | simp, below_drewN (Below.refl _ _) _⟩

end Go.Proofs.YtjppklgegpmfpaaGreatDoor
