/-
  Walks: the law's first look. The laws: what is seen of any list; what is forgotten; any lists are merged. The law: who looks at the mark or later sees what was seen before anything was forgotten.
-/
import Derived.Lib.SlBytesConst
import Derived.Test.YtkodhlaojlgejaaJ11
set_option linter.unusedSimpArgs false
set_option linter.unusedVariables false
namespace Go.Proofs.Ytkodhlaojlgejaa
open Go.RowKit
theorem one_conv (x : Int) (W : World) : (convert 23 23 (.slice (some ⟨W.heap.size, 0, none⟩) 1 1)).run Try.prog (W.alloc (.cells #[.int .u8 x] 5)) = .ok (.slice (some ⟨W.heap.size, 0, none⟩) 1 1) (W.alloc (.cells #[.int .u8 x] 5 (1, 2))) :=
  Lib.run_convert_bytes_const (P := Try.prog) W 23 5 #[.int .u8 x] 1 1 Try.underlying23 Try.underlying5
theorem one_convN (x : Int) (W : World) (n : Nat) (h : W.heap.size = n) : (convert 23 23 (.slice (some ⟨n, 0, none⟩) 1 1)).run Try.prog (W.alloc (.cells #[.int .u8 x] 5)) = .ok (.slice (some ⟨n, 0, none⟩) 1 1) (W.alloc (.cells #[.int .u8 x] 5 (1, 2))) := by
  subst h
  exact one_conv x W
theorem one_at {W : World} {g : Nat} {x : Int} {t : TypeId} {fr : Nat × Nat} (hh : W.heap[g]? = some (.cells #[.int .u8 x] t fr)) (h : 0 ≤ x ∧ x < 256) : In W (some ⟨g, 0, none⟩) [x] 1 1 := by
  refine ⟨rfl, Nat.le_refl _, by omega, .inr ⟨_, rfl, fun j y hy => ?_⟩, fun y hy => by rw [List.mem_singleton.1 hy]; exact h⟩
  rw [add_head]
  cases j with
  | zero =>
    simp at hy
    subst hy
    unfold World.cell?
    simp only
    rw [hh]
    rfl
  | succ j => simp at hy
theorem row_lies {W : World} {g : Nat} {cs : Array Value} {vs : List Value} {t : TypeId} {fr : Nat × Nat} (hh : W.heap[g]? = some (.cells cs t fr)) (e : cs.toList = vs) : Lies W (some ⟨g, 0, none⟩) vs := by
  refine .inr ⟨_, rfl, fun j u hu => ?_⟩
  rw [add_head]
  unfold World.cell?
  simp only
  rw [hh]
  subst e
  simpa using hu
/-- The law's own three entries. -/
def L3 : List Er := [([97], 5, false, [120]), ([97], 3, true, []), ([97], 2, false, [])]
theorem L3_ord : OrdL L3 := by decide +kernel
def l3 (z : Nat) : List En := [⟨⟨some ⟨z, 0, none⟩, 1, [97]⟩, 5, false, ⟨some ⟨z + 1, 0, none⟩, 1, [120]⟩⟩, ⟨⟨some ⟨z + 2, 0, none⟩, 1, [97]⟩, 3, true, ⟨none, 0, []⟩⟩, ⟨⟨some ⟨z + 3, 0, none⟩, 1, [97]⟩, 2, false, ⟨none, 0, []⟩⟩]
/-- They lie. -/
def At3 (z : Nat) (W : World) : Prop := W.heap[z]? = some (.cells #[.int .u8 97] 5 (1, 2)) ∧ W.heap[z + 1]? = some (.cells #[.int .u8 120] 5 (1, 2)) ∧ W.heap[z + 2]? = some (.cells #[.int .u8 97] 5 (1, 2)) ∧ W.heap[z + 3]? = some (.cells #[.int .u8 97] 5 (1, 2)) ∧ W.heap[z + 4]? = some (.cells #[.slice (some ⟨z, 0, none⟩) 1 1, .int .i64 5, .bool false, .slice (some ⟨z + 1, 0, none⟩) 1 1, .slice (some ⟨z + 2, 0, none⟩) 1 1, .int .i64 3, .bool true, .slice none 0 0, .slice (some ⟨z + 3, 0, none⟩) 1 1, .int .i64 2, .bool false, .slice none 0 0] 26 (0, 0))
theorem At3.kept {z : Nat} {W W' : World} (h : At3 z W) (hb : Below W.heap.size W W') : At3 z W' :=
  ⟨obj_kept h.1 hb (Nat.le_refl _), obj_kept h.2.1 hb (Nat.le_refl _), obj_kept h.2.2.1 hb (Nat.le_refl _), obj_kept h.2.2.2.1 hb (Nat.le_refl _), obj_kept h.2.2.2.2 hb (Nat.le_refl _)⟩
theorem L3_small : ∀ x ∈ L3, FitE x ∧ x.1.length ≤ 140737488351232 ∧ x.2.2.2.length ≤ 140737488351232 := fun x hx => by
  simp only [L3, List.mem_cons, List.mem_nil_iff, or_false] at hx
  unfold FitE
  rcases hx with rfl | rfl | rfl <;> refine ⟨⟨by simp, by simp⟩, by simp, by simp⟩
theorem At3.ef {z : Nat} {W : World} (h : At3 z W) : EF W (some ⟨z + 4, 0, none⟩) (l3 z) 3 3 := by
  obtain ⟨h0, h1, h2, h3, h4⟩ := h
  refine ⟨rfl, row_lies h4 rfl, fun q hq => ?_, by decide, fun x hx => (L3_small x hx).1, fun x hx => (L3_small x hx).2⟩
  simp only [l3, List.mem_cons, List.mem_nil_iff, or_false] at hq
  rcases hq with rfl | rfl | rfl
  · exact ⟨one_at h0 (by decide), one_at h1 (by decide)⟩
  · exact ⟨one_at h2 (by decide), in_nil W⟩
  · exact ⟨one_at h3 (by decide), in_nil W⟩
theorem At3.head {z : Nat} {W : World} (h : At3 z W) : EF W (some ⟨z + 4, 0, none⟩) ((l3 z).take 1) 1 3 :=
  h.ef.more (fun x hx => by rw [ers_take] at hx; exact List.mem_of_mem_take hx) rfl (by omega) (lies_take h.ef.lies 1) (fun q hq => h.ef.ins q (List.mem_of_mem_take hq))
theorem At3.tail {z : Nat} {W : World} (h : At3 z W) : EF W (some ⟨z + 4, 4, none⟩) ((l3 z).drop 1) 2 2 :=
  h.ef.more (fun x hx => by rw [ers_drop] at hx; exact List.mem_of_mem_drop hx) rfl (by omega) (lies_drop (c := 3) h.ef.lies 1 (Nat.le_refl 3)) (fun q hq => h.ef.ins q (List.mem_of_mem_drop hq))
/-- A copy, and where it lies. -/
def Cpd (L : List Er) (n : Nat) (w : World) (e : Ending) (w' : World) : Prop := ∃ (l' : List En) (A' : Option Addr) (c' : Nat), ers l' = L ∧ e = .returned (.slice A' n c') ∧ EF w' A' l' n c' ∧ (n ≤ c' ∧ (c' : Int) ≤ 9223372036854775807) ∧ Below w.heap.size w w'
theorem cpd_ef {w : World} {A : Option Addr} {l : List En} {n c : Nat} (h : EF w A l n c) : Calls Try.prog 19 #[.slice A n c] w (Cpd (ers l) n w) :=
  (copy_ef h).mono fun e w' hc => by
    obtain ⟨l', A', c', h1, h2, h3, -, h5, h6⟩ := h.copy hc
    have hcap := own_cap h5
    rw [h3.len] at hcap
    exact ⟨l', A', c', h1, h2, h3, hcap, h6⟩
/-- Two lists in a literal. -/
theorem lf_two {w : World} {A1 A2 : Option Addr} {l1 l2 : List En} {n1 n2 c1 c2 : Nat} (h1 : EF w A1 l1 n1 c1) (h2 : EF w A2 l2 n2 c2) (k1 : n1 ≤ c1 ∧ (c1 : Int) ≤ 9223372036854775807) (k2 : n2 ≤ c2 ∧ (c2 : Int) ≤ 9223372036854775807) (ht : (n1 + n2) * 64 ≤ 140737488351232) :
    LF (w.alloc (.cells #[.slice A1 n1 c1, .slice A2 n2 c2] 22)) (some ⟨w.heap.size, 0, none⟩) [⟨A1, c1, l1⟩, ⟨A2, c2, l2⟩] 2 2 := by
  have e : flat [⟨A1, c1, l1⟩, ⟨A2, c2, l2⟩] = ers l1 ++ ers l2 := by simp [flat, gets]
  have hb := below_new w (.cells #[.slice A1 n1 c1, .slice A2 n2 c2] 22)
  refine ⟨⟨rfl, ?_, fun g hg => ?_⟩, by decide, by rw [e, List.length_append, ers_len, ers_len, h1.len, h2.len]; exact ht, fun x hx => ?_, fun x hx => ?_⟩
  · have := lit_lies w (gvals [⟨A1, c1, l1⟩, ⟨A2, c2, l2⟩]) _ rfl 22
    simpa [gvals, Gl.val, h1.len, h2.len] using this
  · rcases List.mem_cons.1 hg with e | e
    · subst e
      exact ⟨h1.lies.kept hb, h1.ins.kept hb, by simpa only [h1.len] using k1.1, k1.2⟩
    · rw [List.mem_singleton.1 e]
      exact ⟨h2.lies.kept hb, h2.ins.kept hb, by simpa only [h2.len] using k2.1, k2.2⟩
  · rw [e] at hx
    exact (List.mem_append.1 hx).elim (h1.fit x) (h2.fit x)
  · rw [e] at hx
    exact (List.mem_append.1 hx).elim (h1.long x) (h2.long x)
/-- So many, and no error. -/
def Few (n : Nat) (er : Int) (w : World) (e : Ending) (w' : World) : Prop := ∃ (A' : Option Addr) (c' : Nat), e = .returned (.tuple #[.slice A' n c', .int .i64 er]) ∧ Below w.heap.size w w'
theorem thin_w {w : World} {A : Option Addr} {l : List En} {n c m : Nat} {b : Bool} (h : EF w A l n c) (he : ers l = L3) (hm : (thinE 4 b L3).length = m) : Calls Try.prog 29 #[.slice A n c, .int .i64 4, .bool b] w (Few m 0 w) :=
  (thin_ef 4 b h).mono fun e w' hc => by
    rw [he, decide_eq_true L3_ord] at hc
    obtain ⟨l', A', n', c', h1, h2, h3, -, -, h6⟩ := hc
    rw [if_pos rfl] at h1 h3
    have : n' = m := by rw [← h2, ← hm, ← h3, ers_len]
    subst this
    exact ⟨A', c', h1, h6⟩
theorem vis_w {w : World} {A : Option Addr} {l : List En} {n c m : Nat} (h : EF w A l n c) (he : ers l = L3) (hm : (visE 9 L3).length = m) : Calls Try.prog 26 #[.slice A n c, .int .i64 9] w (Few m 0 w) :=
  (visible_ef 9 h).mono fun e w' hc => by
    rw [he, decide_eq_true L3_ord] at hc
    obtain ⟨l', A', n', c', h1, h2, h3, -, -, h6⟩ := hc
    rw [if_pos rfl] at h1 h3
    have : n' = m := by rw [← h2, ← hm, ← h3, rds_len]
    subst this
    exact ⟨A', c', h1, h6⟩
theorem merge_w {w : World} {A1 A2 : Option Addr} {l1 l2 : List En} {n1 n2 c1 c2 m : Nat} {er : Int} {R : List Er} (h1 : EF w A1 l1 n1 c1) (h2 : EF w A2 l2 n2 c2) (k1 : n1 ≤ c1 ∧ (c1 : Int) ≤ 9223372036854775807) (k2 : n2 ≤ c2 ∧ (c2 : Int) ≤ 9223372036854775807) (ht : (n1 + n2) * 64 ≤ 140737488351232) (ha : AnsM [ers l1, ers l2] er R) (hm : R.length = m) :
    Calls Try.prog 23 #[.slice (some ⟨w.heap.size, 0, none⟩) 2 2] (w.alloc (.cells #[.slice A1 n1 c1, .slice A2 n2 c2] 22)) (Few m er (w.alloc (.cells #[.slice A1 n1 c1, .slice A2 n2 c2] 22))) :=
  (merge_lf (lf_two h1 h2 k1 k2 ht)).mono fun e w' hc => by
    obtain ⟨M, A', m', c', er', h3, h4, h5, -, -, h8⟩ := hc
    obtain ⟨e1, e2⟩ := (ansM_of h5).one ha
    have : m' = m := by rw [← h4, ← hm, ← e2, ers_len]
    subst this e1
    exact ⟨A', c', h3, h8⟩
theorem ansM_w : AnsM [L3.take 1, L3.drop 1] 0 L3 := .inr ⟨by
  intro l hl
  rcases List.mem_cons.1 hl with e | e
  · rw [e]; exact L3_ord.take 1
  · rw [List.mem_singleton.1 e]; exact L3_ord.drop 1, .inl ⟨rfl, L3_ord, List.Perm.refl _⟩⟩
theorem ansM_w2 : AnsM [L3, L3] 31 [] := .inr ⟨by
  intro l hl
  rcases List.mem_cons.1 hl with e | e
  · rw [e]; exact L3_ord
  · rw [List.mem_singleton.1 e]; exact L3_ord, .inr ⟨rfl, rfl, fun h => by
    have := (List.pairwise_append.1 (show (L3 ++ L3).Pairwise _ from by simpa [Apt] using h)).2.2 _ (List.mem_cons_self ..) _ (List.mem_cons_self ..)
    exact this (ordE_self _)⟩⟩
set_option maxRecDepth 100000 in
set_option maxHeartbeats 8000000 in
theorem wakes_any (w : World) : Calls Try.prog 22 #[] w fun e w' => e = .returned (.bool true) ∧ Below w.heap.size w w' := by
  go_enter Try.func22, Try.ntmps22
  have k1 := one_convN 97 w w.heap.size rfl
  have k2 := one_convN 120 (w.alloc (.cells #[.int .u8 97] 5 (1, 2))) (w.heap.size + 1) (by simp)
  have k3 := one_convN 97 ((w.alloc (.cells #[.int .u8 97] 5 (1, 2))).alloc (.cells #[.int .u8 120] 5 (1, 2))) (w.heap.size + 1 + 1) (by simp)
  have k4 := one_convN 97 (((w.alloc (.cells #[.int .u8 97] 5 (1, 2))).alloc (.cells #[.int .u8 120] 5 (1, 2))).alloc (.cells #[.int .u8 97] 5 (1, 2))) (w.heap.size + 1 + 1 + 1) (by simp)
  go_upto_region 2 with fail
  clear k1 k2 k3 k4
  obtain ⟨z, hz⟩ : ∃ z, w.heap.size = z := ⟨_, rfl⟩
  obtain ⟨hq, hs, hb⟩ := allocs_get [.cells #[.int .u8 97] 5 (1, 2), .cells #[.int .u8 120] 5 (1, 2), .cells #[.int .u8 97] 5 (1, 2), .cells #[.int .u8 97] 5 (1, 2), .cells #[.slice (some ⟨w.heap.size, 0, none⟩) 1 1, .int .i64 5, .bool false, .slice (some ⟨w.heap.size + 1, 0, none⟩) 1 1, .slice (some ⟨w.heap.size + 1 + 1, 0, none⟩) 1 1, .int .i64 3, .bool true, .slice none 0 0, .slice (some ⟨w.heap.size + 1 + 1 + 1, 0, none⟩) 1 1, .int .i64 2, .bool false, .slice none 0 0] 26] w
  have q0 := hq 0 _ rfl
  have q1 := hq 1 _ rfl
  have q2 := hq 2 _ rfl
  have q3 := hq 3 _ rfl
  have q4 := hq 4 _ rfl
  simp only [List.foldl_cons, List.foldl_nil, List.length_cons, List.length_nil, Nat.reduceAdd, Nat.add_zero] at hs hb q0 q1 q2 q3 q4
  clear hq
  obtain ⟨w3, hw3⟩ : ∃ w3, (((((w.alloc (.cells #[.int .u8 97] 5 (1, 2))).alloc (.cells #[.int .u8 120] 5 (1, 2))).alloc (.cells #[.int .u8 97] 5 (1, 2))).alloc (.cells #[.int .u8 97] 5 (1, 2))).alloc (.cells #[.slice (some ⟨w.heap.size, 0, none⟩) 1 1, .int .i64 5, .bool false, .slice (some ⟨w.heap.size + 1, 0, none⟩) 1 1, .slice (some ⟨w.heap.size + 1 + 1, 0, none⟩) 1 1, .int .i64 3, .bool true, .slice none 0 0, .slice (some ⟨w.heap.size + 1 + 1 + 1, 0, none⟩) 1 1, .int .i64 2, .bool false, .slice none 0 0] 26)) = w3 := ⟨_, rfl⟩
  rw [hw3] at q0 q1 q2 q3 q4 hs hb ⊢
  clear hw3
  have A3 : Hid (At3 z w3) := Lib.hid (by rw [hz] at q0 q1 q2 q3 q4; exact ⟨q0, q1, q2, q3, q4⟩)
  have B3 : Hid (Below w.heap.size w w3) := Lib.hid hb
  rw [hz]
  clear q0 q1 q2 q3 q4 hs hb hz
  have HA3 : Hid (∀ W, Below w3.heap.size w3 W → At3 z W) := Lib.hid (fun W hb => A3.out.kept hb)
  have HCP : Hid (∀ W, Below w3.heap.size w3 W → Calls Try.prog 19 #[.slice (some ⟨z + 4, 0, none⟩) 3 3] W (Cpd L3 3 W)) := Lib.hid (fun W hb => cpd_ef (HA3.out W hb).ef)
  have HC1 : Hid (∀ W, Below w3.heap.size w3 W → Calls Try.prog 19 #[.slice (some ⟨z + 4, 0, none⟩) 1 3] W (Cpd (L3.take 1) 1 W)) := Lib.hid (fun W hb => cpd_ef (HA3.out W hb).head)
  have HC2 : Hid (∀ W, Below w3.heap.size w3 W → Calls Try.prog 19 #[.slice (some ⟨z + 4, 4, none⟩) 2 2] W (Cpd (L3.drop 1) 2 W)) := Lib.hid (fun W hb => cpd_ef (HA3.out W hb).tail)
  have T1 := Lib.hid trivial
  have T2 := Lib.hid trivial
  have T3 := Lib.hid trivial
  have BB : Hid (Below w3.heap.size w3 w3) := Lib.hid (Below.refl _ _)
  clear A3
  go_upto_region 3 with (first
    | (go_at_call 19; refine (HCP.out _ BB.out).mono ?_; rintro e w4 ⟨l4, A4, c4, he4, rfl, h4, -, b4⟩; have E4 := Lib.hid (And.intro he4 h4); have BB : Hid (Below w3.heap.size w3 w4) := Lib.hid (below_then BB.out b4); clear he4 h4 b4)
    | (go_at_call 29; refine (thin_w E4.out.2 E4.out.1 (m := 1) (by decide +kernel)).mono ?_; rintro e w5 ⟨A5, c5, rfl, b5⟩; have BB : Hid (Below w3.heap.size w3 w5) := Lib.hid (below_then BB.out b5); clear b5))
  clear E4
  go_upto_region 4 with (first
    | (go_at_call 19; refine (HCP.out _ BB.out).mono ?_; rintro e w6 ⟨l6, A6, c6, he6, rfl, h6, -, b6⟩; have E6 := Lib.hid (And.intro he6 h6); have BB : Hid (Below w3.heap.size w3 w6) := Lib.hid (below_then BB.out b6); clear he6 h6 b6)
    | (go_at_call 29; refine (thin_w E6.out.2 E6.out.1 (m := 2) (by decide +kernel)).mono ?_; rintro e w7 ⟨A7, c7, rfl, b7⟩; have BB : Hid (Below w3.heap.size w3 w7) := Lib.hid (below_then BB.out b7); clear b7))
  clear E6
  go_upto_region 5 with (first
    | (go_at_call 19; refine (HCP.out _ BB.out).mono ?_; rintro e w8 ⟨l8, A8, c8, he8, rfl, h8, -, b8⟩; have E8 := Lib.hid (And.intro he8 h8); have BB : Hid (Below w3.heap.size w3 w8) := Lib.hid (below_then BB.out b8); clear he8 h8 b8)
    | (go_at_call 26; refine (vis_w E8.out.2 E8.out.1 (m := 1) (by decide +kernel)).mono ?_; rintro e w9 ⟨A9, c9, rfl, b9⟩; have BB : Hid (Below w3.heap.size w3 w9) := Lib.hid (below_then BB.out b9); clear b9))
  clear E8
  have s1 : ∀ W, (Instr.slice 22 (.slice (some ⟨z + 4, 0, none⟩) 3 3) none (some (.int .i64 1)) none).run Try.prog W = .ok (.slice (some ⟨z + 4, 0, none⟩) 1 3) W := slice_highS _ 1 3 3 (by decide) (by decide)
  have s2 : ∀ W, (Instr.slice 22 (.slice (some ⟨z + 4, 0, none⟩) 3 3) (some (.int .i64 1)) none none).run Try.prog W = .ok (.slice (some ⟨z + 4, 4, none⟩) 2 2) W := slice_tailS _ 3 3 (by decide) (by decide)
  go_region_held3 (fun _ => True) (exact trivial) (first
    | (have t1 := T1; go_at_call 19; refine (HC1.out _ (by first | exact BB.out | exact BB.out.drew)).mono ?_; rintro e w10 ⟨l10, A10, c10, he10, rfl, h10, k10, b10⟩; have E10 := Lib.hid (And.intro he10 (And.intro h10 k10)); have BB : Hid (Below w3.heap.size w3 w10) := Lib.hid (below_then (by first | exact BB.out | exact BB.out.drew) b10); clear he10 h10 k10 b10 T1 t1)
    | (have t2 := T2; go_at_call 19; refine (HC2.out _ (by first | exact BB.out | exact BB.out.drew)).mono ?_; rintro e w11 ⟨l11, A11, c11, he11, rfl, h11, k11, b11⟩; have E10 : Hid (ers l10 = L3.take 1 ∧ EF w11 A10 l10 1 c10 ∧ 1 ≤ c10 ∧ (c10 : Int) ≤ 9223372036854775807) := Lib.hid ⟨E10.out.1, E10.out.2.1.kept b11, E10.out.2.2⟩; have E11 := Lib.hid (And.intro he11 (And.intro h11 k11)); have BB : Hid (Below w3.heap.size w3 w11) := Lib.hid (below_then BB.out b11); clear he11 h11 k11 b11 T2 t2)
    | (go_at_call 23; refine (merge_w (m := 3) E10.out.2.1 E11.out.2.1 E10.out.2.2 E11.out.2.2 (by decide) (by rw [E10.out.1, E11.out.1]; exact ansM_w) rfl).mono ?_; rintro e w12 ⟨A12, c12, rfl, b12⟩; have BB : Hid (Below w3.heap.size w3 w12) := Lib.hid (below_then (BB.out.alloc BB.out.size _) b12); clear b12))
  all_goals
    clear s1 s2 E10 E11
    go_upto_region 7 with (first
      | (have t3 := T3; go_at_call 19; refine (HCP.out _ BB.out).mono ?_; rintro e w13 ⟨l13, A13, c13, he13, rfl, h13, k13, b13⟩; have E13 := Lib.hid (And.intro he13 (And.intro h13 k13)); have BB : Hid (Below w3.heap.size w3 w13) := Lib.hid (below_then BB.out b13); clear he13 h13 k13 b13 T3 t3)
      | (go_at_call 19; refine (HCP.out _ BB.out).mono ?_; rintro e w14 ⟨l14, A14, c14, he14, rfl, h14, k14, b14⟩; have E13 : Hid (ers l13 = L3 ∧ EF w14 A13 l13 3 c13 ∧ 3 ≤ c13 ∧ (c13 : Int) ≤ 9223372036854775807) := Lib.hid ⟨E13.out.1, E13.out.2.1.kept b14, E13.out.2.2⟩; have E14 := Lib.hid (And.intro he14 (And.intro h14 k14)); have BB : Hid (Below w3.heap.size w3 w14) := Lib.hid (below_then BB.out b14); clear he14 h14 k14 b14)
      | (go_at_call 23; refine (merge_w (m := 0) E13.out.2.1 E14.out.2.1 E13.out.2.2 E14.out.2.2 (by decide) (by rw [E13.out.1, E14.out.1]; exact ansM_w2) rfl).mono ?_; rintro e w15 ⟨A15, c15, rfl, b15⟩; have BB : Hid (Below w3.heap.size w3 w15) := Lib.hid (below_then (BB.out.alloc BB.out.size _) b15); clear b15))
    go_wp2_with fail
    go_ret
    exact ⟨rfl, B3.out.trans (BB.out.mono B3.out.size)⟩
end Go.Proofs.Ytkodhlaojlgejaa
namespace Go.Proofs.Ytkodhlaojlgejaa
open Go.RowKit
/-- What is answered of a list that may not be. -/
def visA (s : Int) (L : List Er) : Int × List Pr := if decide (OrdL L) = true then (0, visE s L) else (30, [])
def thinA (m : Int) (b : Bool) (L : List Er) : Int × List Er := if decide (OrdL L) = true then (0, thinE m b L) else (30, [])
def PAns (r : Int × List Pr) (w : World) (e : Ending) (w' : World) : Prop := ∃ (l' : List Bp) (A' : Option Addr) (n' c' : Nat), e = .returned (.tuple #[.slice A' n' c', .int .i64 r.1]) ∧ l'.length = n' ∧ rds l' = r.2 ∧ Mades w' w.heap.size l' ∧ Prow w' w.heap.size A' c' l' ∧ Below w.heap.size w w'
def PRef (r : Int × List Pr) (l : List En) (w : World) (e : Ending) (w' : World) : Prop := ∃ (l' : List Bp) (A' : Option Addr) (n' c' : Nat), e = .returned (.tuple #[.slice A' n' c', .int .i64 r.1]) ∧ l'.length = n' ∧ rds l' = r.2 ∧ (∀ p ∈ l', ∃ q ∈ l, p = ⟨q.k, q.v⟩) ∧ Prow w' w.heap.size A' c' l' ∧ Below w.heap.size w w'
def EAns (r : Int × List Er) (w : World) (e : Ending) (w' : World) : Prop := ∃ (l' : List En) (A' : Option Addr) (n' c' : Nat), e = .returned (.tuple #[.slice A' n' c', .int .i64 r.1]) ∧ l'.length = n' ∧ ers l' = r.2 ∧ EMades w' w.heap.size l' ∧ Erow w' w.heap.size A' c' l' ∧ Below w.heap.size w w'
def ERef (r : Int × List Er) (l : List En) (w : World) (e : Ending) (w' : World) : Prop := ∃ (l' : List En) (A' : Option Addr) (n' c' : Nat), e = .returned (.tuple #[.slice A' n' c', .int .i64 r.1]) ∧ l'.length = n' ∧ ers l' = r.2 ∧ (∀ p ∈ l', p ∈ l) ∧ Erow w' w.heap.size A' c' l' ∧ Below w.heap.size w w'
theorem visible_r {w : World} {A : Option Addr} {l : List En} {n c : Nat} {s : Int} {L : List Er} {r : Int × List Pr} (h : EF w A l n c) (he : ers l = L) (hr : visA s L = r) : Calls Try.prog 26 #[.slice A n c, .int .i64 s] w (PAns r w) :=
  (visible_ef s h).mono fun e w' hc => by
    rw [he] at hc
    subst hr
    unfold visA
    obtain ⟨l', A', n', c', h1, h2, h3, h4, h5, h6⟩ := hc
    cases hd : decide (OrdL L) <;> rw [hd] at h1 h3 <;> exact ⟨l', A', n', c', h1, h2, h3, h4, h5, h6⟩
theorem refVisible_r {w : World} {A : Option Addr} {l : List En} {n c : Nat} {s : Int} {L : List Er} {r : Int × List Pr} (h : EF w A l n c) (he : ers l = L) (hr : visA s L = r) : Calls Try.prog 27 #[.slice A n c, .int .i64 s] w (PRef r l w) :=
  (refVisible_ef s h).mono fun e w' hc => by
    rw [he] at hc
    subst hr
    unfold visA
    obtain ⟨l', A', n', c', h1, h2, h3, h4, h5, h6⟩ := hc
    cases hd : decide (OrdL L) <;> rw [hd] at h1 h3 <;> exact ⟨l', A', n', c', h1, h2, h3, h4, h5, h6⟩
theorem thin_r {w : World} {A : Option Addr} {l : List En} {n c : Nat} {m : Int} {b : Bool} {L : List Er} {r : Int × List Er} (h : EF w A l n c) (he : ers l = L) (hr : thinA m b L = r) : Calls Try.prog 29 #[.slice A n c, .int .i64 m, .bool b] w (EAns r w) :=
  (thin_ef m b h).mono fun e w' hc => by
    rw [he] at hc
    subst hr
    unfold thinA
    obtain ⟨l', A', n', c', h1, h2, h3, h4, h5, h6⟩ := hc
    cases hd : decide (OrdL L) <;> rw [hd] at h1 h3 <;> exact ⟨l', A', n', c', h1, h2, h3, h4, h5, h6⟩
theorem refThin_r {w : World} {A : Option Addr} {l : List En} {n c : Nat} {m : Int} {b : Bool} {L : List Er} {r : Int × List Er} (h : EF w A l n c) (he : ers l = L) (hr : thinA m b L = r) : Calls Try.prog 30 #[.slice A n c, .int .i64 m, .bool b] w (ERef r l w) :=
  (refThin_ef m b h).mono fun e w' hc => by
    rw [he] at hc
    subst hr
    unfold thinA
    obtain ⟨l', A', n', c', h1, h2, h3, h4, h5, h6⟩ := hc
    cases hd : decide (OrdL L) <;> rw [hd] at h1 h3 <;> exact ⟨l', A', n', c', h1, h2, h3, h4, h5, h6⟩
theorem visA_len (s : Int) (L : List Er) : (visA s L).2.length ≤ L.length := by
  unfold visA
  split
  · simp only [visE, List.length_map]; exact pickF_len _ _ _
  · simp
theorem thinA_sub (m : Int) (b : Bool) (L : List Er) : List.Sublist (thinA m b L).2 L := by
  unfold thinA
  split
  · exact pickF_sub _ _ _
  · exact List.nil_sublist _
theorem visA_byt {s : Int} {L : List Er} (h : ∀ p ∈ L, ErB p) : ∀ p ∈ (visA s L).2, PrB p := fun p hp => by
  unfold visA at hp
  split at hp
  · obtain ⟨q, hq, rfl⟩ := List.mem_map.1 hp
    exact h q ((pickF_sub _ _ _).subset hq)
  · cases hp
/-- Pairs that are alike are told so. -/
theorem samePairs {w : World} {A B : Option Addr} {l m : List Bp} {n c n' c' : Nat} (hn : l.length = n) (hn' : m.length = n') (h1 : Lies w A (pvals l)) (h2 : Lies w B (pvals m)) (i1 : Ins w l) (i2 : Ins w m) (he : rds l = rds m) (hl : n * 64 ≤ 140737488351232) :
    Calls Try.prog 28 #[.slice A n c, .slice B n' c'] w fun e w' => e = .returned (.bool true) ∧ Below w.heap.size w w' := by
  have e : n = n' := by have := congrArg List.length he; rw [rds_len, rds_len] at this; omega
  refine (refSameP_any A B l m n n' c c' w hn hn' h1 h2 i1 i2 (by omega) (by omega)).mono ?_
  rintro e w' ⟨rfl, k, rfl⟩
  exact ⟨by rw [decide_eq_true he], below_drewN (Below.refl _ _) k⟩
theorem sameEns {w : World} {A B : Option Addr} {l m : List En} {n c n' c' : Nat} (hn : l.length = n) (hn' : m.length = n') (h1 : Lies w A (evals l)) (h2 : Lies w B (evals m)) (i1 : EIns w l) (i2 : EIns w m) (he : ers l = ers m) (hl : n * 64 ≤ 140737488351232) :
    Calls Try.prog 20 #[.slice A n c, .slice B n' c'] w fun e w' => e = .returned (.bool true) ∧ Below w.heap.size w w' := by
  refine (refSame_any A B l m n n' c c' w hn hn' h1 h2 i1 i2 (by omega)).mono ?_
  rintro e w' ⟨rfl, hb⟩
  exact ⟨by rw [decide_eq_true he], hb⟩
set_option maxRecDepth 100000 in
set_option maxHeartbeats 8000000 in
theorem lawVisible (A : Option Addr) (l : List En) (n c : Nat) (s : Int) (w : World) (h : EF w A l n c) :
    Calls Try.prog 6 #[.slice A n c, .int .i64 s] w fun e w' => e = .returned (.bool true) ∧ Below w.heap.size w w' := by
  have HH := Lib.hid h
  obtain ⟨L, hL⟩ : ∃ L, ers l = L := ⟨_, rfl⟩
  obtain ⟨⟨er, P⟩, hr⟩ : ∃ r, visA s L = r := ⟨_, rfl⟩
  have HL := Lib.hid (And.intro hL hr)
  clear h hL hr
  go_enter Try.func6, Try.ntmps6
  go_upto_region 5 with (first
    | (go_at_call 22; refine (wakes_any _).mono ?_; rintro e w1 ⟨rfl, hb⟩; have B1 := Lib.hid hb; clear hb)
    | (go_at_call 19; refine (copy_ef (HH.out.kept B1.out)).mono ?_; intro e w2 hc; obtain ⟨l2, A2, c2, he, rfl, h2, -, -, hb⟩ := HH.out.copy hc; have E2 := Lib.hid (And.intro he (And.intro h2 (below_then B1.out hb))); clear hc he h2 hb)
    | (go_at_call 26; refine (visible_r E2.out.2.1 (E2.out.1.trans HL.out.1) HL.out.2).mono ?_; rintro e w3 ⟨l3, A3, n3, c3, rfl, h1, h2, h3, h4, hb⟩; have E3 : Hid (l3.length = n3 ∧ rds l3 = P ∧ Mades w3 w2.heap.size l3 ∧ Prow w3 w2.heap.size A3 c3 l3 ∧ Below w.heap.size w w3) := Lib.hid ⟨h1, h2, h3, h4, below_then E2.out.2.2 hb⟩; clear h1 h2 h3 h4 hb E2)
    | (go_at_call 27; refine (refVisible_r (HH.out.kept E3.out.2.2.2.2) HL.out.1 HL.out.2).mono ?_; rintro e w4 ⟨l4, A4, n4, c4, rfl, h1, h2, h3, h4, hb⟩; have E4 : Hid (l4.length = n4 ∧ rds l4 = P ∧ (∀ p ∈ l4, ∃ q ∈ l, p = ⟨q.k, q.v⟩) ∧ Prow w4 w3.heap.size A4 c4 l4 ∧ Below w3.heap.size w3 w4) := Lib.hid ⟨h1, h2, h3, h4, hb⟩; clear h1 h2 h3 h4 hb))
  have B4 : Hid (Below w.heap.size w w4) := Lib.hid (below_then E3.out.2.2.2.2 E4.out.2.2.2.2)
  have HB : Hid (∀ p ∈ P, PrB p) := Lib.hid (by have := visA_byt (s := s) (L := L) (by rw [← HL.out.1]; exact HH.out.ins.byt); rw [HL.out.2] at this; exact this)
  have HS : Hid (Calls Try.prog 28 #[.slice A3 n3 c3, .slice A4 n4 c4] w4 fun e w' => e = .returned (.bool true) ∧ Below w4.heap.size w4 w') := Lib.hid (samePairs E3.out.1 E4.out.1 (E3.out.2.2.2.1.kept E4.out.2.2.2.2 (Nat.le_refl _)).lies E4.out.2.2.2.1.lies ((E3.out.2.2.1.kept E4.out.2.2.2.2 (Nat.le_refl _)).ins (by rw [E3.out.2.1]; exact HB.out)) (fun p hp => by
    obtain ⟨q, hq, e⟩ := E4.out.2.2.1 p hp
    subst e
    exact (HH.out.ins.kept B4.out) q hq) (E3.out.2.1.trans E4.out.2.1.symm) (by
    have h1 := visA_len s L
    rw [HL.out.2] at h1
    have h2 : n3 = P.length := by rw [← E3.out.2.1, rds_len, E3.out.1]
    have h3 : L.length = n := by rw [← HL.out.1, ers_len, HH.out.len]
    have h4 := HH.out.few
    simp only at h1
    omega))
  clear HB E3 E4
  go_wp2_with (go_at_call 28; refine HS.out.mono ?_; rintro e w5 ⟨rfl, hb⟩; have B5 := Lib.hid (below_then B4.out hb); clear hb)
  go_ret
  exact ⟨rfl, B5.out⟩
set_option maxRecDepth 100000 in
set_option maxHeartbeats 8000000 in
theorem lawThins (A : Option Addr) (l : List En) (n c : Nat) (m : Int) (b : Bool) (w : World) (h : EF w A l n c) :
    Calls Try.prog 7 #[.slice A n c, .int .i64 m, .bool b] w fun e w' => e = .returned (.bool true) ∧ Below w.heap.size w w' := by
  have HH := Lib.hid h
  obtain ⟨L, hL⟩ : ∃ L, ers l = L := ⟨_, rfl⟩
  obtain ⟨⟨er, P⟩, hr⟩ : ∃ r, thinA m b L = r := ⟨_, rfl⟩
  have HL := Lib.hid (And.intro hL hr)
  clear h hL hr
  go_enter Try.func7, Try.ntmps7
  go_upto_region 5 with (first
    | (go_at_call 22; refine (wakes_any _).mono ?_; rintro e w1 ⟨rfl, hb⟩; have B1 := Lib.hid hb; clear hb)
    | (go_at_call 19; refine (copy_ef (HH.out.kept B1.out)).mono ?_; intro e w2 hc; obtain ⟨l2, A2, c2, he, rfl, h2, -, -, hb⟩ := HH.out.copy hc; have E2 := Lib.hid (And.intro he (And.intro h2 (below_then B1.out hb))); clear hc he h2 hb)
    | (go_at_call 29; refine (thin_r E2.out.2.1 (E2.out.1.trans HL.out.1) HL.out.2).mono ?_; rintro e w3 ⟨l3, A3, n3, c3, rfl, h1, h2, h3, h4, hb⟩; have E3 : Hid (l3.length = n3 ∧ ers l3 = P ∧ EMades w3 w2.heap.size l3 ∧ Erow w3 w2.heap.size A3 c3 l3 ∧ Below w.heap.size w w3) := Lib.hid ⟨h1, h2, h3, h4, below_then E2.out.2.2 hb⟩; clear h1 h2 h3 h4 hb E2)
    | (go_at_call 30; refine (refThin_r (HH.out.kept E3.out.2.2.2.2) HL.out.1 HL.out.2).mono ?_; rintro e w4 ⟨l4, A4, n4, c4, rfl, h1, h2, h3, h4, hb⟩; have E4 : Hid (l4.length = n4 ∧ ers l4 = P ∧ (∀ p ∈ l4, p ∈ l) ∧ Erow w4 w3.heap.size A4 c4 l4 ∧ Below w3.heap.size w3 w4) := Lib.hid ⟨h1, h2, h3, h4, hb⟩; clear h1 h2 h3 h4 hb))
  have B4 : Hid (Below w.heap.size w w4) := Lib.hid (below_then E3.out.2.2.2.2 E4.out.2.2.2.2)
  have HSUB : Hid (List.Sublist P L) := Lib.hid (by have := thinA_sub m b L; rw [HL.out.2] at this; exact this)
  have HS : Hid (Calls Try.prog 20 #[.slice A3 n3 c3, .slice A4 n4 c4] w4 fun e w' => e = .returned (.bool true) ∧ Below w4.heap.size w4 w') := Lib.hid (sameEns E3.out.1 E4.out.1 (E3.out.2.2.2.1.kept E4.out.2.2.2.2 (Nat.le_refl _)).lies E4.out.2.2.2.1.lies ((E3.out.2.2.1.kept E4.out.2.2.2.2 (Nat.le_refl _)).ins (by rw [E3.out.2.1]; intro p hp; exact HH.out.ins.byt p (by rw [HL.out.1]; exact HSUB.out.subset hp))) (fun p hp => (HH.out.ins.kept B4.out) p (E4.out.2.2.1 p hp)) (E3.out.2.1.trans E4.out.2.1.symm) (by
    have h1 := HSUB.out.length_le
    have h2 : n3 = P.length := by rw [← E3.out.2.1, ers_len, E3.out.1]
    have h3 : L.length = n := by rw [← HL.out.1, ers_len, HH.out.len]
    have h4 := HH.out.few
    omega))
  clear HSUB E3 E4
  go_wp2_with (go_at_call 20; refine HS.out.mono ?_; rintro e w5 ⟨rfl, hb⟩; have B5 := Lib.hid (below_then B4.out hb); clear hb)
  go_ret
  exact ⟨rfl, B5.out⟩
/-- What the program answers of lists. -/
def MAns (F : List (List Er)) (w : World) (e : Ending) (w' : World) : Prop := ∃ (M : List En) (A' : Option Addr) (m c' : Nat) (er : Int), e = .returned (.tuple #[.slice A' m c', .int .i64 er]) ∧ M.length = m ∧ AnsM F er (ers M) ∧ EMades w' w.heap.size M ∧ Erow w' w.heap.size A' c' M ∧ Below w.heap.size w w'
theorem merge_m {w : World} {A : Option Addr} {Ls : List Gl} {n c : Nat} {F : List (List Er)} (h : LF w A Ls n c) (hF : fl Ls = F) : Calls Try.prog 23 #[.slice A n c] w (MAns F w) :=
  (merge_lf h).mono fun e w' hc => by
    obtain ⟨M, A', m', c', er, h1, h2, h3, h4, h5, h6⟩ := hc
    exact ⟨M, A', m', c', er, h1, h2, hF ▸ ansM_of h3, h4, h5, h6⟩
def MRef (F : List (List Er)) (w : World) (e : Ending) (w' : World) : Prop := ∃ (M : List En) (A' : Option Addr) (m c' : Nat) (er : Int), e = .returned (.tuple #[.slice A' m c', .int .i64 er]) ∧ M.length = m ∧ AnsM F er (ers M) ∧ Lies w' A' (evals M) ∧ EIns w' M ∧ Below w.heap.size w w'
theorem refMerge_m {w : World} {A : Option Addr} {Ls : List Gl} {n c : Nat} {F : List (List Er)} (h : LF w A Ls n c) (hF : fl Ls = F) : Calls Try.prog 25 #[.slice A n c] w (MRef F w) :=
  (refMerge_lf h).mono fun e w' hc => by
    obtain ⟨M, A', m', c', er, h1, h2, h3, h4, h5, h6⟩ := hc
    exact ⟨M, A', m', c', er, h1, h2, hF ▸ ansM_of h3, h4, h5, h6⟩
theorem ansM_mem {F : List (List Er)} {er : Int} {R : List Er} (h : AnsM F er R) : (∀ x ∈ R, x ∈ F.flatten) ∧ R.length ≤ F.flatten.length := by
  rcases h with ⟨_, h, _⟩ | ⟨_, ⟨_, _, h⟩ | ⟨_, h, _⟩⟩
  · subst h; exact ⟨(fun x hx => by cases hx), Nat.zero_le _⟩
  · exact ⟨fun x hx => h.mem_iff.1 hx, by rw [h.length_eq]; exact Nat.le_refl _⟩
  · subst h; exact ⟨(fun x hx => by cases hx), Nat.zero_le _⟩
theorem LF.byt {w : World} {A : Option Addr} {Ls : List Gl} {n c : Nat} (h : LF w A Ls n c) : ∀ x ∈ (fl Ls).flatten, ErB x := fun x hx => by
  obtain ⟨l, hl, hx⟩ := List.mem_flatten.1 hx
  obtain ⟨g, hg, rfl⟩ := List.mem_map.1 hl
  exact (h.ls.each g hg).2.1.byt x hx
/-- What is answered may be read, and asked again. -/
theorem LF.out {w w' : World} {A A' : Option Addr} {Ls : List Gl} {n c m c' : Nat} {er : Int} {M : List En} (h : LF w A Ls n c) (ha : AnsM (fl Ls) er (ers M)) (hm : M.length = m) (hl : Lies w' A' (evals M)) (hi : EIns w' M) : EF w' A' M m c' := by
  obtain ⟨h1, h2⟩ := ansM_mem ha
  rw [flat_fl] at h1 h2
  rw [ers_len, hm] at h2
  have := h.tot
  exact ⟨hm, hl, hi, by omega, fun x hx => h.fit x (h1 x hx), fun x hx => h.long x (h1 x hx)⟩
/-- Copies of lists. -/
theorem lists_lf {w : World} {A : Option Addr} {Ls : List Gl} {n c : Nat} (h : LF w A Ls n c) : Calls Try.prog 24 #[.slice A n c] w fun e w' => ∃ (T : List Gl) (A' : Option Addr) (c' : Nat), e = .returned (.slice A' n c') ∧ fl T = fl Ls ∧ LF w' A' T n c' ∧ GMades w' w.heap.size T ∧ Grow w' w.heap.size A' c' T ∧ Below w.heap.size w w' :=
  (lists_any A Ls n c w h.ls h.few (fun g hg => ⟨(h.each hg).few, (h.each hg).longs⟩)).mono fun e w' hc => by
    obtain ⟨T, A', c', h1, h2, h3, h4, h5, h6⟩ := hc
    exact ⟨T, A', c', h1, h3, h.made (.inl (by rw [← flat_fl, h3, flat_fl]; exact List.Sublist.refl _)) h2 h.few h5.lies h4, h4, h5, h6⟩
set_option maxRecDepth 100000 in
set_option maxHeartbeats 8000000 in
theorem lawMerges (A : Option Addr) (Ls : List Gl) (n c : Nat) (w : World) (h : LF w A Ls n c) :
    Calls Try.prog 5 #[.slice A n c] w fun e w' => e = .returned (.bool true) ∧ Below w.heap.size w w' := by
  have HH := Lib.hid h
  clear h
  go_enter Try.func5, Try.ntmps5
  go_upto_region 5 with (first
    | (go_at_call 22; refine (wakes_any _).mono ?_; rintro e w1 ⟨rfl, hb⟩; have B1 := Lib.hid hb; clear hb)
    | (go_at_call 24; refine (lists_lf (HH.out.kept B1.out)).mono ?_; rintro e w2 ⟨T, A2, c2, rfl, hf, h2, -, -, hb⟩; have E2 : Hid (fl T = fl Ls ∧ LF w2 A2 T n c2 ∧ Below w.heap.size w w2) := Lib.hid ⟨hf, h2, below_then B1.out hb⟩; clear hf h2 hb)
    | (go_at_call 23; refine (merge_m E2.out.2.1 E2.out.1).mono ?_; rintro e w3 ⟨M, A3, m, c3, er, rfl, h1, h2, h3, h4, hb⟩; have E3 : Hid (M.length = m ∧ AnsM (fl Ls) er (ers M) ∧ EMades w3 w2.heap.size M ∧ Erow w3 w2.heap.size A3 c3 M ∧ Below w.heap.size w w3) := Lib.hid ⟨h1, h2, h3, h4, below_then E2.out.2.2 hb⟩; clear h1 h2 h3 h4 hb E2)
    | (go_at_call 25; refine (refMerge_m (HH.out.kept E3.out.2.2.2.2) rfl).mono ?_; rintro e w4 ⟨M4, A4, m4, c4, er4, rfl, h1, h2, h3, h4, hb⟩; obtain rfl : er = er4 := (E3.out.2.1.one h2).1; have E4 : Hid (M4.length = m4 ∧ ers M = ers M4 ∧ Lies w4 A4 (evals M4) ∧ EIns w4 M4 ∧ Below w3.heap.size w3 w4) := Lib.hid ⟨h1, (E3.out.2.1.one h2).2, h3, h4, hb⟩; clear h1 h2 h3 h4 hb))
  have B4 : Hid (Below w.heap.size w w4) := Lib.hid (below_then E3.out.2.2.2.2 E4.out.2.2.2.2)
  have HS : Hid (Calls Try.prog 20 #[.slice A3 m c3, .slice A4 m4 c4] w4 fun e w' => e = .returned (.bool true) ∧ Below w4.heap.size w4 w') := Lib.hid (sameEns E3.out.1 E4.out.1 (E3.out.2.2.2.1.kept E4.out.2.2.2.2 (Nat.le_refl _)).lies E4.out.2.2.1 ((E3.out.2.2.1.kept E4.out.2.2.2.2 (Nat.le_refl _)).ins (fun p hp => HH.out.byt p ((ansM_mem E3.out.2.1).1 p hp))) E4.out.2.2.2.1 E4.out.2.1 (by
    have h1 := (ansM_mem E3.out.2.1).2
    rw [ers_len, E3.out.1, flat_fl] at h1
    have h4 := HH.out.tot
    omega))
  clear E3 E4
  go_wp2_with (go_at_call 20; refine HS.out.mono ?_; rintro e w5 ⟨rfl, hb⟩; have B5 := Lib.hid (below_then B4.out hb); clear hb)
  go_ret
  exact ⟨rfl, B5.out⟩
end Go.Proofs.Ytkodhlaojlgejaa
namespace Go.Proofs.Ytkodhlaojlgejaa
open Go.RowKit
theorem visA_ok {s : Int} {L : List Er} (h : OrdL L) : visA s L = (0, visE s L) := by unfold visA; rw [if_pos (decide_eq_true h)]
theorem thinA_ok {m : Int} {b : Bool} {L : List Er} (h : OrdL L) : thinA m b L = (0, thinE m b L) := by unfold thinA; rw [if_pos (decide_eq_true h)]
theorem visA_no {s : Int} {L : List Er} (h : ¬ OrdL L) : visA s L = (30, []) := by unfold visA; rw [if_neg (by simpa using h)]
theorem thinA_no {m : Int} {b : Bool} {L : List Er} (h : ¬ OrdL L) : thinA m b L = (30, []) := by unfold thinA; rw [if_neg (by simpa using h)]
theorem quarter (m : Int) : 0 ≤ wrap64 (IntKind.u64.wrap m / 4) ∧ wrap64 (IntKind.u64.wrap m / 4) < 4611686018427387904 := by
  have h1 : 0 ≤ IntKind.u64.wrap m ∧ IntKind.u64.wrap m < 18446744073709551616 := by
    unfold IntKind.wrap
    simp [IntKind.signed, IntKind.bits]
    omega
  unfold wrap64
  omega
theorem quarters (m s : Int) : wrap64 (IntKind.u64.wrap m / 4) ≤ wrap64 (wrap64 (IntKind.u64.wrap m / 4) + wrap64 (IntKind.u64.wrap s / 4)) := by
  have h1 := quarter m
  have h2 := quarter s
  generalize wrap64 (IntKind.u64.wrap m / 4) = a at h1 ⊢
  generalize wrap64 (IntKind.u64.wrap s / 4) = b at h2 ⊢
  unfold wrap64
  omega
set_option maxRecDepth 100000 in
set_option maxHeartbeats 16000000 in
theorem lawKeeps (A : Option Addr) (l : List En) (n c : Nat) (m s : Int) (w : World) (h : EF w A l n c) :
    Calls Try.prog 8 #[.slice A n c, .int .i64 m, .int .i64 s] w fun e w' => e = .returned (.bool true) ∧ Below w.heap.size w w' := by
  have HH := Lib.hid h
  have HMQ := Lib.hid (quarters m s)
  obtain ⟨L, hL⟩ : ∃ L, ers l = L := ⟨_, rfl⟩
  have HL := Lib.hid hL
  have HLB : Hid (∀ p ∈ L, ErB p) := Lib.hid (by rw [← hL]; exact h.ins.byt)
  have HLN : Hid (L.length = n) := Lib.hid (by rw [← hL, ers_len, h.len])
  clear h hL
  go_enter Try.func8, Try.ntmps8
  go_upto_region 5 with (first
    | (go_at_call 22; refine (wakes_any _).mono ?_; rintro e w1 ⟨rfl, hb⟩; have B1 := Lib.hid hb; clear hb))
  generalize wrap64 (wrap64 (IntKind.u64.wrap m / 4) + wrap64 (IntKind.u64.wrap s / 4)) = q at HMQ ⊢
  generalize wrap64 (IntKind.u64.wrap m / 4) = m1 at HMQ ⊢
  go_wp2_with fail
  go_loopw [8] (fun t8 wr => ∃ i : Nat, i ≤ 2 ∧ t8 = .int .i64 i ∧ Hid (Below w.heap.size w wr)) (fun t8 _ => 2 - (intOf t8).toNat)
  case atStart => exact ⟨0, by omega, rfl, B1⟩
  case round =>
    obtain ⟨i, hi, rfl, hr⟩ := hrel
    by_cases hlt : i < 2
    · obtain ⟨b, hb⟩ : ∃ b, ((i : Int) == 1) = b := ⟨_, rfl⟩
      have i0 : (i : Int) < 2 := by omega
      by_cases ho : OrdL L
      · have HO := Lib.hid ho
        have HT : Hid (thinA m1 b L = (0, thinE m1 b L)) := Lib.hid (thinA_ok ho)
        have HV : Hid (visA q L = (0, visE q L)) := Lib.hid (visA_ok ho)
        have HT2 : Hid (thinA m1 b (thinE m1 b L) = (0, thinE m1 b L)) := Lib.hid (by rw [thinA_ok (thin_ord ho), thin_thin ho])
        have HV2 : Hid (visA q (thinE m1 b L) = (0, visE q L)) := Lib.hid (by rw [visA_ok (thin_ord ho), vis_thin ho HMQ.out])
        have HTS : Hid (List.Sublist (thinE m1 b L) L) := Lib.hid (pickF_sub _ _ _)
        have HVS : Hid ((visE q L).length ≤ n) := Lib.hid (by rw [← HLN.out]; simp only [visE, List.length_map]; exact pickF_len _ _ _)
        have HVB : Hid (∀ p ∈ visE q L, PrB p) := Lib.hid (by have := visA_byt (s := q) HLB.out; rw [HV.out] at this; exact this)
        generalize thinE m1 b L = T at HT HT2 HV2 HTS
        generalize visE q L = P at HV HV2 HVS HVB
        clear ho
        go_upto_region 9 with (first
          | (go_at_call 19; refine (copy_ef (HH.out.kept hr.out)).mono ?_; intro e w2 hc; obtain ⟨l2, A2, c2, he, rfl, h2, -, -, hb⟩ := HH.out.copy hc; have E2 := Lib.hid (And.intro he (And.intro h2 (below_then hr.out hb))); clear hc he h2 hb)
          | (go_at_call 29; refine (thin_r E2.out.2.1 (E2.out.1.trans HL.out) HT.out).mono ?_; rintro e w3 ⟨l3, A3, n3, c3, rfl, h1, h2, h3, h4, hb⟩; replace h2 : ers l3 = T := h2; have E3 : Hid (ers l3 = T ∧ EF w3 A3 l3 n3 c3 ∧ Below w.heap.size w w3) := Lib.hid ⟨h2, HH.out.more (fun x hx => by rw [HL.out]; rw [h2] at hx; exact HTS.out.subset hx) h1 (by have := HTS.out.length_le; rw [← h2, ers_len, h1, HLN.out] at this; exact this) h4.lies (h3.ins (by rw [h2]; exact fun p hp => HLB.out p (HTS.out.subset hp))), below_then E2.out.2.2 hb⟩; clear h1 h2 h3 h4 hb E2))
        go_upto_region 10 with (first
          | (go_at_call 19; refine (copy_ef (HH.out.kept E3.out.2.2)).mono ?_; intro e w4 hc; obtain ⟨l4, A4, c4, he, rfl, h2, -, -, hb⟩ := HH.out.copy hc; have E4 := Lib.hid (And.intro he (And.intro h2 hb)); clear hc he h2 hb)
          | (go_at_call 26; refine (visible_r E4.out.2.1 (E4.out.1.trans HL.out) HV.out).mono ?_; rintro e w5 ⟨l5, A5, n5, c5, rfl, h1, h2, h3, h4, hb⟩; replace h2 : rds l5 = P := h2; have E5 : Hid (l5.length = n5 ∧ rds l5 = P ∧ Ins w5 l5 ∧ Lies w5 A5 (pvals l5) ∧ Below w3.heap.size w3 w5) := Lib.hid ⟨h1, h2, h3.ins (by rw [h2]; exact HVB.out), h4.lies, below_then E4.out.2.2 hb⟩; clear h1 h2 h3 h4 hb E4))
        go_upto_region 13 with (first
          | (go_at_call 19; refine (copy_ef (E3.out.2.1.kept E5.out.2.2.2.2)).mono ?_; intro e w6 hc; obtain ⟨l6, A6, c6, he, rfl, h2, -, -, hb⟩ := E3.out.2.1.copy hc; have E6 := Lib.hid (And.intro he (And.intro h2 hb)); clear hc he h2 hb)
          | (go_at_call 26; refine (visible_r E6.out.2.1 (E6.out.1.trans E3.out.1) HV2.out).mono ?_; rintro e w7 ⟨l7, A7, n7, c7, rfl, h1, h2, h3, h4, hb⟩; replace h2 : rds l7 = P := h2; have E7 : Hid (l7.length = n7 ∧ rds l7 = P ∧ Ins w7 l7 ∧ Lies w7 A7 (pvals l7) ∧ Below w5.heap.size w5 w7) := Lib.hid ⟨h1, h2, h3.ins (by rw [h2]; exact HVB.out), h4.lies, below_then E6.out.2.2 hb⟩; clear h1 h2 h3 h4 hb E6))
        go_upto_region 14 with (first
          | (go_at_call 19; refine (copy_ef (E3.out.2.1.kept (below_then E5.out.2.2.2.2 E7.out.2.2.2.2))).mono ?_; intro e w8 hc; obtain ⟨l8, A8, c8, he, rfl, h2, -, -, hb⟩ := E3.out.2.1.copy hc; have E8 := Lib.hid (And.intro he (And.intro h2 hb)); clear hc he h2 hb)
          | (go_at_call 29; refine (thin_r E8.out.2.1 (E8.out.1.trans E3.out.1) HT2.out).mono ?_; rintro e w9 ⟨l9, A9, n9, c9, rfl, h1, h2, h3, h4, hb⟩; replace h2 : ers l9 = T := h2; have E9 : Hid (l9.length = n9 ∧ ers l9 = T ∧ EIns w9 l9 ∧ Lies w9 A9 (evals l9) ∧ Below w7.heap.size w7 w9) := Lib.hid ⟨h1, h2, h3.ins (by rw [h2]; exact fun p hp => HLB.out p (HTS.out.subset hp)), h4.lies, below_then E8.out.2.2 hb⟩; clear h1 h2 h3 h4 hb E8))
        have B59 : Hid (Below w5.heap.size w5 w9) := Lib.hid (below_then E7.out.2.2.2.2 E9.out.2.2.2.2)
        have HS : Hid (Calls Try.prog 28 #[.slice A5 n5 c5, .slice A7 n7 c7] w9 fun e w' => e = .returned (.bool true) ∧ Below w9.heap.size w9 w') := Lib.hid (samePairs E5.out.1 E7.out.1 (E5.out.2.2.2.1.kept B59.out) (E7.out.2.2.2.1.kept E9.out.2.2.2.2) (E5.out.2.2.1.kept B59.out) (E7.out.2.2.1.kept E9.out.2.2.2.2) (E5.out.2.1.trans E7.out.2.1.symm) (by
          have h1 : n5 = P.length := by rw [← E5.out.2.1, rds_len, E5.out.1]
          have h2 := HVS.out
          have h3 := HH.out.few
          omega))
        have HS2 : Hid (∀ W, Below w9.heap.size w9 W → Calls Try.prog 20 #[.slice A3 n3 c3, .slice A9 n9 c9] W fun e w' => e = .returned (.bool true) ∧ Below W.heap.size W w') := Lib.hid (fun W hW => by
          have h3 := E3.out.2.1.kept (below_then (below_then E5.out.2.2.2.2 B59.out) hW)
          exact sameEns h3.len E9.out.1 h3.lies (E9.out.2.2.2.1.kept hW) h3.ins (E9.out.2.2.1.kept hW) (E3.out.1.trans E9.out.2.1.symm) h3.few)
        have B9 : Hid (Below w.heap.size w w9) := Lib.hid (below_then (below_then E3.out.2.2 E5.out.2.2.2.2) B59.out)
        clear E3 E5 E7 E9 B59
        go_wp2_with (first
          | (go_at_call 28; refine HS.out.mono ?_; rintro e w10 ⟨rfl, hb⟩; have B10 := Lib.hid hb; clear hb)
          | (go_at_call 20; refine (HS2.out _ B10.out).mono ?_; rintro e w11 ⟨rfl, hb⟩; have B11 := Lib.hid (below_then (below_then B9.out B10.out) hb); clear hb))
        go_roundw
        case rel => exact ⟨i + 1, by omega, by go_num, B11⟩
        case measure => simp [intOf]; omega
      · have HT : Hid (thinA m1 b L = (30, [])) := Lib.hid (thinA_no ho)
        have HV : Hid (visA q L = (30, [])) := Lib.hid (visA_no ho)
        have HOD : Hid (∀ W, Below w.heap.size w W → Calls Try.prog 31 #[.slice A n c] W fun e w' => e = .returned (.bool false) ∧ Below W.heap.size W w') := Lib.hid (fun W hW => by
          have := refOrdered_ef (HH.out.kept hW)
          rwa [HL.out, decide_eq_false ho] at this)
        clear ho
        go_wp2_with (first
          | (go_at_call 19; have t1 := hr; refine (copy_ef (HH.out.kept hr.out)).mono ?_; intro e w2 hc; obtain ⟨l2, A2, c2, he, rfl, h2, -, -, hb⟩ := HH.out.copy hc; have E2 := Lib.hid (And.intro he (And.intro h2 (below_then hr.out hb))); clear hc he h2 hb t1 hr)
          | (go_at_call 29; refine (thin_r E2.out.2.1 (E2.out.1.trans HL.out) HT.out).mono ?_; rintro e w3 ⟨l3, A3, n3, c3, rfl, h1, h2, h3, h4, hb⟩; have E3 : Hid (Below w.heap.size w w3) := Lib.hid (below_then E2.out.2.2 hb); clear h1 h2 h3 h4 hb E2)
          | (go_at_call 19; refine (copy_ef (HH.out.kept E3.out)).mono ?_; intro e w4 hc; obtain ⟨l4, A4, c4, he, rfl, h2, -, -, hb⟩ := HH.out.copy hc; have E4 := Lib.hid (And.intro he (And.intro h2 (below_then E3.out hb))); clear hc he h2 hb)
          | (go_at_call 26; refine (visible_r E4.out.2.1 (E4.out.1.trans HL.out) HV.out).mono ?_; rintro e w5 ⟨l5, A5, n5, c5, rfl, h1, h2, h3, h4, hb⟩; have E5 : Hid (Below w.heap.size w w5) := Lib.hid (below_then E4.out.2.2 hb); clear h1 h2 h3 h4 hb)
          | (go_at_call 31; refine (HOD.out _ E5.out).mono ?_; rintro e w6 ⟨rfl, hb⟩; have E6 := Lib.hid (below_then E5.out hb); clear hb))
        go_ret
        exact ⟨rfl, E6.out⟩
    · obtain rfl : i = 2 := by omega
      go_wp2_with fail
      go_ret
      exact ⟨rfl, hr.out⟩
end Go.Proofs.Ytkodhlaojlgejaa
