/-
  DaycountJoins: for every convention and every three days: stretches by actual days join, none is below nought, and a refused one counts nought; no condition.
-/
import Derived.Test.YtfcgmhkfehcdaaaRows
import Derived.Test.YtfcgmhkfehcdaaaLawJ
import Derived.Test.YtfcgmhkfehcdaaaLast
import Derived.WalkKit
import Derived.ProofKit
import Derived.OpenShut
import Derived.ShutString
namespace Go.Proofs.Ytfcgmhkfehcdaaa.daycountJoins
open Go.ChangeShapes Go.WideShapes Go.ChangeAt Go.RowKit
open Go.ChangeMaps (open_string shut_string)
set_option linter.unusedVariables false

theorem own : ownKnob Try.prog.godebug = none := by kernel_rfl

theorem walk (a0 p q r : Int) (w : World) :
    Calls Try.prog 5 #[.int .i64 a0, .agg #[.int .i64 p, .int .i64 q, .int .i64 r]] w fun e w' => e = .returned (.bool true) ∧ Below w.heap.size w w' := by
  exact joins_law a0 p q r w

set_option maxRecDepth 100000 in
/-- Three words, as they come in and as they read. -/
theorem open_three {H : Type} {enc : TypeId × Value → H} {W : World} {base : Nat} {spare : Nat → Bool} {held : Bool} {v : Value} {d : DataW H} {ps : List MemPlace}
    (hv : Value.okWide Try.prog W .any base 35 v) (h : DataW.Trod enc Try.prog W 0 spare held 35 v d ps) :
    ∃ x y z, v = .agg #[.int .i64 x, .int .i64 y, .int .i64 z] ∧ d = .agg [.lit (.int .i64 x), .lit (.int .i64 y), .lit (.int .i64 z)] ∧ ps = [] ∧ (Lit.int .i64 x).wf = true ∧ (Lit.int .i64 y).wf = true ∧ (Lit.int .i64 z).wf = true := by
  have c2 : Try.prog.cellsOf 35 = 3 := by kernel_rfl
  have c1 : Try.prog.cellsOf 3 = 1 := by kernel_rfl
  unfold Value.okWide at hv
  rw [Try.underlying35] at hv
  obtain ⟨cs, rfl, hn, -⟩ := hv
  rw [c2] at hn
  obtain ⟨u, w, t, rfl⟩ : ∃ u w t, cs = #[u, w, t] := ⟨cs[0], cs[1], cs[2], by ext i hi hi' <;> simp_all <;> match i, hi with | 0, _ => rfl | 1, _ => rfl | 2, _ => rfl⟩
  obtain ⟨fuel, hf⟩ := h
  obtain ⟨xs, m, rfl, hx, -, hlen, hi⟩ := DataW.trod_array Try.underlying35 hf
  match xs, hlen, hx, hi with
  | [a, b, c], _, hx, hi =>
    have h0 := hi 0 (by decide)
    have h1 := hi 1 (by decide)
    have h2 := hi 2 (by decide)
    simp [c1, Value.cells] at h0 h1 h2
    obtain ⟨x, hx0, rfl, wx⟩ := DataW.trod_int Try.underlying3 h0
    obtain ⟨y, hy0, rfl, wy⟩ := DataW.trod_int Try.underlying3 h1
    obtain ⟨z, hz0, rfl, wz⟩ := DataW.trod_int Try.underlying3 h2
    simp at hx0 hy0 hz0 hx
    obtain ⟨rfl, rfl, rfl⟩ := hx
    subst hx0 hy0 hz0
    exact ⟨x, y, z, rfl, rfl, rfl, wx, wy, wz⟩
set_option maxRecDepth 100000 in
theorem shut_three {H : Type} {enc : TypeId × Value → H} {W : World} {base : Nat} {spare : Nat → Bool} {held : Bool} {x y z : Int} (wx : (Lit.int .i64 x).wf = true) (wy : (Lit.int .i64 y).wf = true) (wz : (Lit.int .i64 z).wf = true) :
    DataW.Trod enc Try.prog W base spare held 35 (.agg #[.int .i64 x, .int .i64 y, .int .i64 z]) (.agg [.lit (.int .i64 x), .lit (.int .i64 y), .lit (.int .i64 z)]) [] := by
  have c2 : Try.prog.cellsOf 35 = 3 := by kernel_rfl
  have c1 : Try.prog.cellsOf 3 = 1 := by kernel_rfl
  have r2 : List.range 3 = [0, 1, 2] := rfl
  refine ⟨2, ?_⟩
  simp [DataW.trod, Value.cells, Try.underlying35, Try.underlying3, c1, c2, r2, wx, wy, wz]

set_option maxRecDepth 100000 in
theorem lifted (os : Os) (started : os.Started) (H : Type) (enc : TypeId × Value → H) :
    ReturnsInHanded {} Try.checked os 5 .any (Rows.daycountJoinsSpec.pre6 enc Try.prog Try.f5 Rows.daycountJoinsRow.domain false) (Rows.daycountJoinsSpec.post enc Try.prog Try.f5 false true false false) := by
  refine returnsInHanded_of_change (C := Try.checked) own started (by kernel_rfl) Try.func5
    (ChangeSpec.witness6 (enc := enc) (C := Try.checked) false ⟨#[], #[.int .i64 0, .agg #[.int .i64 0, .int .i64 0, .int .i64 0]], []⟩ 8 (by kernel_rfl) (by kernel_rfl) (by kernel_rfl) (by kernel_rfl)) ?_
  intro W base args ds gs before hval0 hW hcnd _
  have hval : ∀ (j : Nat) t v, Try.f5.params[j]? = some t → args[j]? = some v → Value.okWide Try.prog W .any base t v := hval0
  have hW' := hW
  obtain ⟨p, q, hA0, hV, rfl, hfz, hnd⟩ := hW
  have hA : DataW.TrodAll enc Try.prog W 0 (fun _ => true) true Try.f5.params.toList args.toList ds p := hA0
  rw [Try.params5] at hA hval
  obtain ⟨v0, vs0, d0, ds0, p0, q0, hargs, rfl, rfl, h0, r0⟩ := trodAll_cons hA
  obtain ⟨v1, vs1, d1, ds1, p1, q1, rfl, rfl, rfl, h1, r1⟩ := trodAll_cons r0
  obtain ⟨rfl, rfl, rfl⟩ := trodAll_nil r1
  obtain rfl : args = #[v0, v1] := by cases args; simp_all
  obtain ⟨rfl, rfl⟩ := trodVars_none hV
  obtain ⟨a0, rfl, rfl, rfl, w0⟩ := open_int Try.underlying3 (hval 0 3 v0 rfl rfl) h0
  obtain ⟨p, q, r, rfl, rfl, rfl, wp, wq, wr⟩ := open_three (hval 1 35 v1 rfl rfl) h1
  clear hA0 hval0
  simp only [List.append_nil] at hW'
  refine (walk a0 p q r W).mono fun e W' ⟨he, hg⟩ => ?_
  subst he
  exact ⟨_, rfl, answered (pa := []) (pv := []) hg hW' (fun _ _ => (trodAll_cons_mk (shut_int Try.underlying3 w0) (trodAll_cons_mk (shut_three wp wq wr) trodAll_mk0))) (fun _ _ => rfl) (fun _ _ _ => (trodAll_cons_mk (shut_bool Try.underlying4 _) trodAll_mk0)) (ok_one (by kernel_rfl) rfl (okWide_bool_mk Try.underlying4 _))⟩

theorem over : Rows.daycountJoinsRow.holds Try.pinned (OpenSpec.ofChange Rows.daycountJoinsSpec) :=
  OpenClaim.holds_of_wide 5 Try.f5 rfl rfl rfl rfl rfl rfl rfl ⟨rfl, rfl, rfl, rfl, rfl⟩ rfl rfl rfl rfl rfl (by kernel_rfl) Try.func5 (by kernel_rfl)
    (of_decide_eq_true (by kernel_rfl)) (by unfold Func.isWrapper; first | (rw [if_pos (by decide +kernel)]; kernel_rfl) | (rw [if_neg (by decide +kernel)]; exact ⟨rfl, rfl⟩))
    (fun os started H enc _ => lifted os started H enc)

theorem proved : Rows.DaycountJoinsSaid :=
  over
end Go.Proofs.Ytfcgmhkfehcdaaa.daycountJoins
