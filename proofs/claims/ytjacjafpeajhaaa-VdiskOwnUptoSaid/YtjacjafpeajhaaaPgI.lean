/-
  Walks: a new disk.
-/
import Derived.Test.YtjacjafpeajhaaaPgH
namespace Go.Proofs.Ytjacjafpeajhaaa
open Go.RowKit
open Go.Maps

theorem sumP_nil : sumP [] = 0 := rfl
/-- A disk without files, as it is laid. -/
theorem PSt.fresh {_w W : World} {B g b : Nat} (hk : PkAt W g ⟨b, [], 0, 0, 0, none, [], 0, false⟩) (hg : B ≤ g) (hb : B ≤ b) (hm : W.ownsMap Try.prog 9 ptrElem b 0 (.map [])) : PSt W B g ⟨b, [], 0, 0, 0, none, [], 0, false⟩ :=
  ⟨hk, hg, ⟨hm, hb, fun _ h => (List.not_mem_nil h).elim, fun _ h => (List.not_mem_nil h).elim, List.Pairwise.nil, Irow.nil _ _, fun _ h => (List.not_mem_nil h).elim⟩, by show (0 : Int) = wrap64 0; unfold wrap64; omega, ⟨by show (-9223372036854775808 : Int) ≤ 0; omega, by show (0 : Int) ≤ _; omega⟩, ⟨by show (-9223372036854775808 : Int) ≤ 0; omega, by show (0 : Int) ≤ _; omega⟩⟩

/-- It answers a disk, in new memory. -/
def Born (w : World) (m : Vm) (e : Ending) (w' : World) : Prop := ∃ g p, e = .returned (.pointer (some ⟨g, 0, none⟩)) ∧ PSt w' w.heap.size g p ∧ p.vm = m ∧ Below w.heap.size w w'

set_option maxRecDepth 100000 in
set_option maxHeartbeats 4000000 in
theorem new_any (ops room : Int) (A : Option Addr) (keep : List Int) (n c : Nat) (w : World) (hn : keep.length = n) (hk : Ints w A keep) (hl : n * 8 ≤ 140737488355328)
    (hi : ∀ x ∈ keep, -9223372036854775808 ≤ x ∧ x ≤ 9223372036854775807) (ho : -9223372036854775808 ≤ ops ∧ ops ≤ 9223372036854775807) (hm : -9223372036854775808 ≤ room ∧ room ≤ 9223372036854775807) :
    Calls Try.prog 20 #[.agg #[.int .i64 ops, .int .i64 room, .slice A n c]] w (Born w ⟨[], room, ops, keep, false⟩) := by
  have hmm := @run_makeMap Try.prog
  have hW : ∀ (x y z : Obj), Below w.heap.size w (((w.alloc x).alloc y).alloc z) := fun x y z => ((below_new _ _).alloc (by simp) _).alloc (by simp; omega) _
  have HW := Lib.hid (hW (.cells #[.int .i64 ops, .int .i64 room, .slice A n c] 25) (.map #[] 0) (.cells #[.map (some (w.heap.size + 1)), .int .i64 0, .int .i64 0, .int .i64 0, .slice none 0 0, .bool false] 76))
  have HP : Hid (PSt (((w.alloc (.cells #[.int .i64 ops, .int .i64 room, .slice A n c] 25)).alloc (.map #[] 0)).alloc (.cells #[.map (some (w.heap.size + 1)), .int .i64 0, .int .i64 0, .int .i64 0, .slice none 0 0, .bool false] 76)) w.heap.size (w.heap.size + 2) ⟨w.heap.size + 1, [], 0, 0, 0, none, [], 0, false⟩) := Lib.hid (by
    refine PSt.fresh (_w := w) ?_ (by omega) (by omega) ?_
    · have := heap_alloc_new ((w.alloc (.cells #[.int .i64 ops, .int .i64 room, .slice A n c] 25)).alloc (.map #[] 0)) (.cells #[.map (some (w.heap.size + 1)), .int .i64 0, .int .i64 0, .int .i64 0, .slice none 0 0, .bool false] 76)
      rw [show ((w.alloc (.cells #[.int .i64 ops, .int .i64 room, .slice A n c] 25)).alloc (.map #[] 0)).heap.size = w.heap.size + 2 by simp] at this
      exact this
    · have := World.ownsMap_made (H := Addr) (w.alloc (.cells #[.int .i64 ops, .int .i64 room, .slice A n c] 25)) Try.prog 9 ptrElem
      rw [show (w.alloc (.cells #[.int .i64 ops, .int .i64 room, .slice A n c] 25)).heap.size = w.heap.size + 1 by simp] at this
      exact this.alloc _)
  have HC := Lib.hid (fun (W : World) (hP : PSt W w.heap.size (w.heap.size + 2) ⟨w.heap.size + 1, [], 0, 0, 0, none, [], 0, false⟩) (hb : Below w.heap.size w W) => begin_any _ _ _ ops room A keep n c W hP hn (Lies.kept hk hb) hl hi ho hm)
  clear hn hk hl hi ho hm hW
  go_enter Try.func20, Try.ntmps20
  go_wp2_with (go_at_call 46; refine (HC.out _ HP.out HW.out).mono ?_; rintro e w2 ⟨rfl, A', c', hp, hd⟩; have E := Lib.hid (And.intro hp hd); clear hp hd)
  go_ret
  obtain ⟨hp, hd⟩ := E.out
  exact ⟨_, _, rfl, hp, rfl, HW.out.trans (hd.below HW.out.size (fun k hk => (HP.out.owned k hk).1))⟩

end Go.Proofs.Ytjacjafpeajhaaa
