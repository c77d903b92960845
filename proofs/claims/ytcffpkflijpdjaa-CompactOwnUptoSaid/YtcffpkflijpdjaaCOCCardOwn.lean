/-
  Proved: CompactOwn answers true at every input of bulk at most 1048576: lists and versions that are handed in stay as they were, and what compact.Run and compact.Pick answer is new memory: the bytes of pieces and the numbers of tables may be written over, and lists, versions and other answers stay. Condition: the bulk (what comes in has at most 1048576 parts and bytes).
-/
import Derived.Test.YtcffpkflijpdjaaRows
import Derived.WalkKit
import Derived.ProofKit
import Derived.OpenShut
import Derived.ChangeOld
import Derived.Below
import Derived.SizedLaws
import Derived.JoinedCond
import Derived.Test.YtcffpkflijpdjaaCJ01
import Derived.Test.YtcffpkflijpdjaaCJ02
import Derived.Test.YtcffpkflijpdjaaCJ03
import Derived.Test.YtcffpkflijpdjaaCJ04
import Derived.Test.YtcffpkflijpdjaaCJ05
import Derived.Test.YtcffpkflijpdjaaCJ06
import Derived.Test.YtcffpkflijpdjaaCJ07
import Derived.Test.YtcffpkflijpdjaaCJ08
import Derived.Test.YtcffpkflijpdjaaCJ09
import Derived.Test.YtcffpkflijpdjaaCJ11
import Derived.Test.YtcffpkflijpdjaaCJ15
import Derived.Test.YtcffpkflijpdjaaCO00
import Derived.Test.YtcffpkflijpdjaaCO01
set_option linter.unusedSimpArgs false
set_option linter.unusedVariables false
namespace Go.Proofs.Ytcffpkflijpdjaa.compactOwn
open Go.ChangeShapes Go.WideShapes Go.ChangeAt Go.RowKit
theorem own : ownKnob Try.prog.godebug = none := by kernel_rfl
theorem laidOut : laidOutB Try.prog = true := by kernel_rfl
theorem one_le {H : Type} (d : DataW H) : 1 ≤ Rows.uptoBulk d := by
  cases d with
  | lit l => cases l <;> simp [Rows.uptoBulk]
  | nil => simp [Rows.uptoBulk]
  | ptr d => simp [Rows.uptoBulk]
  | slice elems spare => simp [Rows.uptoBulk]
  | agg parts => simp [Rows.uptoBulk]
  | iface t d => simp [Rows.uptoBulk]
  | map entries => simp [Rows.uptoBulk]
  | held h => simp [Rows.uptoBulk]
theorem part_le {H : Type} {d : DataW H} {l : List (DataW H)} (h : d ∈ l) : Rows.uptoBulk d ≤ Rows.uptoBulkAll l := by
  induction l with
  | nil => cases h
  | cons x r ih =>
    simp only [Rows.uptoBulkAll]
    rcases List.mem_cons.1 h with e | e
    · subst e; omega
    · have := ih e; omega
theorem length_le {H : Type} (l : List (DataW H)) : l.length ≤ Rows.uptoBulkAll l := by
  induction l with
  | nil => simp [Rows.uptoBulkAll]
  | cons x r ih => have := one_le x; simp only [Rows.uptoBulkAll, List.length_cons]; omega
theorem slice_le {H : Type} (elems spare : List (DataW H)) : elems.length + spare.length ≤ Rows.uptoBulk (.slice elems spare) := by
  have h1 := length_le elems
  have h2 := length_le spare
  simp only [Rows.uptoBulk]
  omega
theorem small {H : Type} {l : List (DataW H)} {elems spare : List (DataW H)} (hk : Rows.uptoSmall H l = true) (h : DataW.slice elems spare ∈ l) : elems.length + spare.length ≤ 1048576 := by
  have h1 : Rows.uptoBulkAll l ≤ 1048576 := of_decide_eq_true hk
  have h2 := part_le h
  have h3 := slice_le elems spare
  omega
theorem walk (A0 : Option Addr) (n0 c0 : Nat) (l0 : List Gl) (A1 : Option Addr) (n1 c1 : Nat) (v1a v1b v1c : Int) (T1 : List Ta) (m2 z2 : Int) (b2 : Bool) (w : World) (y0 : LUp w A0 l0 n0 c0) (y1 : VUp w A1 T1 n1 c1) (y2 : HowIn m2 z2) :
    Calls Try.prog 14 #[.slice A0 n0 c0, .agg #[.slice A1 n1 c1, .int .i64 v1a, .int .i64 v1b, .int .i64 v1c], .agg #[.int .i64 m2, .int .i64 z2, .bool b2]] w fun e w' => e = .returned (.bool true) ∧ Below w.heap.size w w' := by
  exact lawOwnC A0 l0 n0 c0 A1 T1 n1 c1 v1a v1b v1c m2 z2 b2 w y0.lf y1.ts (fun q hq => by have := y1.long q hq; omega)
set_option maxRecDepth 100000 in
theorem contract (H : Type) (enc : TypeId × Value → H) (W : World) (base : Nat) (args : Array Value) (ds gs : List (DataW H)) (before : List MemPlace)
    (hval : ∀ (j : Nat) t v, Try.f14.params[j]? = some t → args[j]? = some v → Value.okWide Try.prog W .any base t v)
    (hW : DataW.Whole enc Try.prog Try.f14.params.toList Rows.compactOwnSpec.vars false W args.toList ds gs before)
    (hsz0 : Rows.uptoSmall H (ds ++ gs) = true) :
    Calls Try.prog 14 args W fun e W' => ∃ v, e = .returned v ∧ Rows.compactOwnSpec.post enc Try.prog Try.f14 false true false false W args v W' := by
  have hW' := hW
  have hsz := hsz0
  clear hsz0
  obtain ⟨p, q, hA0, hV, rfl, hfz, hnd⟩ := hW
  have hA : DataW.TrodAll enc Try.prog W 0 (fun _ => true) true Try.f14.params.toList args.toList ds p := hA0
  rw [Try.params14] at hA hval
  obtain ⟨v0, vs0, d0, ds0, p0, q0, hargs, rfl, rfl, h0, r0⟩ := trodAll_cons hA
  obtain ⟨v1, vs1, d1, ds1, p1, q1, rfl, rfl, rfl, h1, r1⟩ := trodAll_cons r0
  obtain ⟨v2, vs2, d2, ds2, p2, q2, rfl, rfl, rfl, h2, r2⟩ := trodAll_cons r1
  obtain ⟨rfl, rfl, rfl⟩ := trodAll_nil r2
  obtain rfl : args = #[v0, v1, v2] := by cases args; simp_all
  obtain ⟨rfl, rfl⟩ := trodVars_none hV
  obtain ⟨A0, n0, c0, rfl⟩ := okWide_slice Try.underlying42 (hval 0 42 v0 rfl rfl)
  have k0 := h0
  have lt0 : ∀ x ∈ p0, x.block < W.heap.size := by obtain ⟨m, hm⟩ := k0; exact DataW.trod_lt m _ _ _ hm
  obtain ⟨l0, y0⟩ : ∃ l, LUp W A0 l n0 c0 := by
    obtain ⟨fuel, hf⟩ := h0
    exact open_lists_up hf (Nat.le_trans (bulk_in (List.mem_append_left _ (by simp))) (of_decide_eq_true hsz)) A0 n0 c0 (by simp [Value.cells])
  have k1 := h1
  have lt1 : ∀ x ∈ p1, x.block < W.heap.size := by obtain ⟨m, hm⟩ := k1; exact DataW.trod_lt m _ _ _ hm
  obtain ⟨A1, n1, c1, v1a, v1b, v1c, rfl, T1, y1⟩ : ∃ (A : Option Addr) (n c : Nat) (a b d : Int), v1 = Value.agg #[.slice A n c, .int .i64 a, .int .i64 b, .int .i64 d] ∧ ∃ T, VUp W A T n c := by
    obtain ⟨fuel, hf⟩ := h1
    exact open_ver hf (Nat.le_trans (bulk_in (List.mem_append_left _ (by simp))) (of_decide_eq_true hsz)) (hval 1 82 v1 rfl rfl)
  have k2 := h2
  have lt2 : ∀ x ∈ p2, x.block < W.heap.size := by obtain ⟨m, hm⟩ := k2; exact DataW.trod_lt m _ _ _ hm
  obtain ⟨m2, z2, b2, rfl, y2⟩ : ∃ (m z : Int) (b : Bool), v2 = Value.agg #[.int .i64 m, .int .i64 z, .bool b] ∧ HowIn m z := by
    obtain ⟨fuel, hf⟩ := h2
    exact open_how hf (hval 2 72 v2 rfl rfl)
  clear hA0
  refine (walk A0 n0 c0 l0 A1 n1 c1 v1a v1b v1c T1 m2 z2 b2 W y0 y1 y2).mono fun e W' ⟨he, bel⟩ => ?_
  subst he
  exact ⟨_, rfl, _, _, _, [], _, [], hW', trodAll_mk1 (shut_bool Try.underlying4 _), (trodAll_cons_mk (Below.trod laidOut (by kernel_rfl) (of_decide_eq_true (by kernel_rfl)) k0 bel lt0) (trodAll_cons_mk (Below.trod laidOut (by kernel_rfl) (of_decide_eq_true (by kernel_rfl)) k1 bel lt1) (trodAll_cons_mk (Below.trod laidOut (by kernel_rfl) (of_decide_eq_true (by kernel_rfl)) k2 bel lt2) trodAll_mk0))), rfl, bel.frame _, fun h => by cases h⟩
set_option maxRecDepth 100000 in
theorem lifted (os : Os) (started : os.Started) (H : Type) (enc : TypeId × Value → H) (F : Stop.Interp) :
    ReturnsInHanded {} Try.checked os 14 .any ((Rows.OpenSpec.upto Rows.compactOwnSpec).pre6 enc Try.prog Try.f14 Rows.compactOwnUptoRow.domain false) (((Rows.OpenSpec.upto Rows.compactOwnSpec).at F).post enc Try.prog Try.f14 false true false false) := by
  refine returnsInHanded_of_cond (C := Try.checked) (s := Rows.OpenSpec.upto Rows.compactOwnSpec) (k := Rows.uptoSmall) rfl own started (by kernel_rfl) Try.func14
    (OpenSpec.witness (enc := enc) (C := Try.checked) (s := Rows.OpenSpec.upto Rows.compactOwnSpec) (k := Rows.uptoSmall) rfl false ⟨#[], #[.slice none 0 0, .agg #[.slice none 0 0, .int .i64 0, .int .i64 0, .int .i64 0], .agg #[.int .i64 0, .int .i64 0, .bool false]], []⟩ 8 (by kernel_rfl) (by kernel_rfl) (by kernel_rfl)
      (x := ([.nil, .agg [.nil, .lit (.int .i64 0), .lit (.int .i64 0), .lit (.int .i64 0)], .agg [.lit (.int .i64 0), .lit (.int .i64 0), .lit (.bool false)]], [], [])) (by kernel_rfl) rfl (by kernel_rfl)) ?_
  intro W base args ds gs before hval hW _ hk _
  exact contract H enc W base args ds gs before hval hW hk
theorem proved : Rows.CompactOwnUptoSaid :=
  OpenClaim.holds_of_cond 14 Try.f14 rfl rfl rfl rfl rfl rfl rfl ⟨rfl, rfl, rfl, rfl, rfl⟩ rfl rfl rfl rfl rfl (by kernel_rfl) Try.func14 (by kernel_rfl)
    (of_decide_eq_true (by kernel_rfl)) (by unfold Func.isWrapper; first | (rw [if_pos (by decide +kernel)]; kernel_rfl) | (rw [if_neg (by decide +kernel)]; exact ⟨rfl, rfl⟩))
    (fun os started H enc _ F => lifted os started H enc F)
end Go.Proofs.Ytcffpkflijpdjaa.compactOwn
