/-
  The law WalNil, walked.
-/
import Derived.Test.YtjppklgegpmfpaaGreatDoorWgP
namespace Go.Proofs.YtjppklgegpmfpaaGreatDoor
open Go.RowKit
open Go.Maps

theorem wpList_append_row_if (w : World) {ops : Array Oper} {rest : List Oper} {o : Oper} {a : Act} {Q : Exit → Act → World → Prop} (hw : Region.wanted o (yielded ops a.tmps) = true) (s x : Operand)
    (ho : o.op = .call { callee := .builtin .append, args := #[s, x], argTypes := #[35, 35] })
    (B : Nat) (A : Option Addr) (c : Nat) (L M : List Int) (C : Option Addr) (n m cm : Nat) (hs : a.eval s = .slice A n c) (hx : a.eval x = .slice C m cm) (en : L.length = n) (em : M.length = m) (h : Row w B A c L) (hm : Bys w C M) (hB : B ≤ w.heap.size) (hr : L.length + M.length ≤ 140737488355328)
    (k : ∀ A' c' w', Row w' B A' c' (L ++ M) → Below B w w' → wpList Tryz.prog ops Q rest (a.put o.dst (.slice A' (n + m) c')) w') : wpList Tryz.prog ops Q (o :: rest) a w := by
  subst en
  subst em
  obtain ⟨i, hi, hz0, hz1, hz2⟩ := info_parts info5
  refine wpList_step fun K hK => ?_
  rw [if_pos hw]
  obtain ⟨A', c', w', r, h2, h3⟩ := run_append_lies w 35 o.type 5 i (.int .u8 0) 1 1 Tryz.underlying35 hi hz0 hz1 hz2 rfl (by decide) B A L.length c (vals L) h C M.length cm (vals M) (by simp [vals_len]) hm.lies vals_one (by unfold maxLen; omega) (by omega) hB
  rw [← vals_append] at h2
  have k' := k A' c' w' (by unfold Row; rw [List.length_append]; exact h2) h3
  unfold Oper.wp execOp
  simp only [ho, resolve, invoke, builtin, Sem.run_bind, Sem.run_pure, Result.andThen_ok, List.map_toArray, List.map_cons, List.map_nil, hs, hx, r]
  exact hK _ _ k'

set_option maxRecDepth 100000 in
set_option maxHeartbeats 4000000 in
theorem lawNil (A : Option Addr) (L : List Int) (n c : Nat) (below : Int) (w : World) (hT : Tab w.heap.size w) (h : In w A L n c) (hn : n ≤ 140737488351232) :
    Calls Tryz.prog 5 #[.slice A n c, .int .i64 below] w fun e w' => e = .returned (.bool true) ∧ Below w.heap.size w w' := by
  have HI := Lib.hid h
  have HW := Lib.hid (wakes_any w hT)
  clear h hT
  go_enter Tryz.func5, Tryz.ntmps5
  go_wp2_with (first
    | (go_at_call 10; refine (open_nil _ _ _).mono ?_; rintro e w1 ⟨rfl, hx⟩; subst hx)
    | (go_at_call 7; refine HW.out.mono ?_; rintro e w1 ⟨rfl, hb⟩; have B1 := Lib.hid hb; have A2 := Lib.hid (row_made w1 w1.heap.size [] #[] rfl (by simp) (Nat.le_refl _)); have E2 := Lib.hid ((HI.out.bys.kept hb).alloc (.cells #[] 5)); clear hb)
    | (at_builtin; refine wpList_append_row_if _ (by with_unfolding_all rfl) (.tmp 17) (.tmp 18) rfl w1.heap.size _ 0 [] L A 0 n c rfl rfl rfl HI.out.len A2.out E2.out (by simp) (by have := HI.out.len; simp only [List.length_nil]; omega) ?_; intro A3 c3 w3 r3 b3; have B3 : Hid (Below w.heap.size w w3) := Lib.hid (B1.out.trans (((below_new w1 _).trans b3).mono B1.out.size)); clear r3 b3)
    | (go_at_call 11; refine (appendLog_nil _ _).mono ?_; rintro e w4 ⟨rfl, hx⟩; subst hx)
    | (go_at_call 12; refine (syncLog_nil _).mono ?_; rintro e w4 ⟨rfl, hx⟩; subst hx)
    | (go_at_call 17; refine (dropLog_nil _ _).mono ?_; rintro e w4 ⟨rfl, hx⟩; subst hx)
    | (go_at_call 16; refine (segment_nil _).mono ?_; rintro e w4 ⟨rfl, hx⟩; subst hx))
  go_ret
  exact ⟨rfl, B3.out⟩

end Go.Proofs.YtjppklgegpmfpaaGreatDoor
