/-
  Walks: a heap of lists of entries: two change their places. Walks: a heap of lists of entries: one more is put in. Walks: a heap of lists of entries: the first is taken out. Plain: lists in order, made one: what is kept while the least is taken out.
-/
import Derived.Test.YtkodhlaojlgejaaJ05
import Derived.Test.YtkodhlaojlgejaaJ06
set_option linter.unusedSimpArgs false
set_option linter.unusedVariables false
namespace Go.Proofs.Ytkodhlaojlgejaa
open Go.RowKit
/-- Rows and boxes of entries stand. -/
def Bes (W W' : World) : Prop := W.heap.size ≤ W'.heap.size ∧ ∀ (g : Nat) (cs : Array Value) (fr : Nat × Nat), W.heap[g]? = some (.cells cs 26 fr) → W'.heap[g]? = some (.cells cs 26 fr)
theorem Bes.refl (W : World) : Bes W W := ⟨Nat.le_refl _, fun _ _ _ h => h⟩
theorem Bes.trans {a b c : World} (h : Bes a b) (k : Bes b c) : Bes a c := ⟨Nat.le_trans h.1 k.1, fun g cs fr e => k.2 g cs fr (h.2 g cs fr e)⟩
theorem Bes.of_below {W W' : World} (h : Below W.heap.size W W') : Bes W W' := ⟨h.size, fun g _ _ e => (h.block g (Array.getElem?_eq_some_iff.1 e).1).trans e⟩
theorem Bes.set {W W' : World} (h : Bes W W') {g i : Nat} {v : Value} {cs : Array Value} {ty : TypeId} {fr : Nat × Nat} (hg : W'.heap[g]? = some (.cells cs ty fr)) (ht : ty ≠ 26) : Bes W (W'.setCell ⟨g, i, none⟩ v) := by
  refine ⟨by simpa using h.1, fun j cs' fr' e => ?_⟩
  have h1 := h.2 j cs' fr' e
  have hne : j ≠ g := fun e' => by
    rw [e', hg] at h1
    injection h1 with h1
    injection h1 with _ h1
    exact ht h1
  rw [Below.heap_setCell W' ⟨g, i, none⟩ v j hne]
  exact h1
theorem Bes.erow {W W' : World} {B c : Nat} {A : Option Addr} {l : List En} (h : Erow W B A c l) (hb : Bes W W') : Erow W' B A c l := by
  refine ⟨h.1, ?_⟩
  rcases h.2 with e | ⟨g, cap, cur, e, k1, k2, k3⟩
  · exact .inl e
  · exact .inr ⟨g, cap, cur, e, k1, hb.2 _ _ _ k2, k3⟩
theorem grow_obj {w : World} {B c g : Nat} {T : List Gl} (h : Grow w B (some ⟨g, 0, none⟩) c T) : ∃ cur, w.heap[g]? = some (.cells cur 22 (0, 0)) := by
  rcases h.2 with ⟨e, _⟩ | ⟨g', cap, cur, e, _, h2, _⟩
  · cases e
  · injection e with e
    injection e with e
    injection e with e
    subst e
    exact ⟨cur, h2⟩
/-- A place of the heap's row is written. -/
theorem Hp.set {w0 W : World} {hb c g : Nat} {T : List Gl} (h : Hp w0 W hb (some ⟨g, 0, none⟩) c T) {i : Nat} {u : Gl} (hi : i < T.length) (hu : GIn w0 u) : Hp w0 (W.setCell ⟨g, i, none⟩ u.val) hb (some ⟨g, 0, none⟩) c (T.set i u) ∧ Bes W (W.setCell ⟨g, i, none⟩ u.val) ∧ W.frozen? ⟨g, i, none⟩ = false := by
  obtain ⟨g', s, e, -, -, hf, hset⟩ := grow_at h.row hi
  injection e with e
  injection e with e
  subst e
  obtain ⟨cur, hc⟩ := grow_obj h.row
  have hne : hb ≠ g := fun e' => by
    have := h.obj
    rw [e', hc] at this
    injection this with this
    injection this with _ this
    exact absurd this (by decide)
  have hg := (own_in h.row _ rfl).1
  refine ⟨⟨h.low, ?_, hset u, ((Kp.of_below h.bel).set g i u.val (by show ¬ g < _; have : (⟨g, 0, none⟩ : Addr).block = g := rfl; omega)).below (fun _ hk => hk), fun s hs => ?_⟩, (Bes.refl W).set hc (by decide), hf⟩
  · rw [Below.heap_setCell W ⟨g, i, none⟩ u.val hb hne, List.length_set]
    exact h.obj
  · rcases List.mem_or_eq_of_mem_set hs with q | q
    · exact h.ins s q
    · exact q ▸ hu
set_option maxRecDepth 100000 in
set_option maxHeartbeats 8000000 in
theorem swap_any {w0 W : World} {hb : Nat} {A : Option Addr} {c : Nat} {T : List Gl} (h : Hp w0 W hb A c T) (i k : Nat) (hi : i < T.length) (hk : k < T.length) : Calls Try.prog 65 #[.pointer (some ⟨hb, 0, none⟩), .int .i64 i, .int .i64 k] W fun e w' => e = .returned (.tuple #[]) ∧ Hp w0 w' hb A c (swapL T i k) ∧ Bes W w' := by
  obtain ⟨n, hn⟩ : ∃ n, T.length = n := ⟨_, rfl⟩
  have hs := List.getElem?_eq_getElem hi
  have hp := List.getElem?_eq_getElem hk
  generalize T[i] = s at hs
  generalize T[k] = p at hp
  obtain ⟨g, rfl, a1⟩ := h.at_ hs
  obtain ⟨g2, e2, a2⟩ := h.at_ hp
  injection e2 with e2
  injection e2 with e2
  subst e2
  have c0 := h.cells.1
  rw [hn] at c0
  obtain ⟨H1, B1, f1⟩ := h.set (u := p) hi (h.ins p (List.mem_of_getElem? hp))
  obtain ⟨H2, B2, f2⟩ := H1.set (i := k) (u := s) (by rw [List.length_set]; exact hk) (h.ins s (List.mem_of_getElem? hs))
  have HE : Hid (Hp w0 (((W.setCell ⟨g, i, none⟩ p.val).setCell ⟨g, k, none⟩ s.val).drew) hb (some ⟨g, 0, none⟩) c (swapL T i k) ∧ Bes W (((W.setCell ⟨g, i, none⟩ p.val).setCell ⟨g, k, none⟩ s.val).drew)) := Lib.hid ⟨by
    have e : swapL T i k = (T.set i p).set k s := by unfold swapL; rw [hs, hp]
    rw [e]
    exact H2.kept (Below.refl _ _).drew, B1.trans B2⟩
  have HSC : Hid (((W.setCell ⟨g, i, none⟩ p.val).drew.cell? ⟨hb, 0, none⟩ = some (.slice (some ⟨g, 0, none⟩) n c)) ∧ (((W.setCell ⟨g, i, none⟩ p.val).setCell ⟨g, k, none⟩ s.val).drew.cell? ⟨hb, 0, none⟩ = some (.slice (some ⟨g, 0, none⟩) n c))) := Lib.hid (by
    have q1 := H1.cells.1
    have q2 := H2.cells.1
    rw [List.length_set, hn] at q1
    rw [List.length_set, List.length_set, hn] at q2
    exact ⟨q1, q2⟩)
  have hcell2 : ∃ v, (W.setCell ⟨g, i, none⟩ p.val).cell? ⟨g, k, none⟩ = some v := by
    obtain ⟨g3, s3, e3, -, k3, -⟩ := grow_at H1.row (k := k) (by rw [List.length_set]; exact hk)
    injection e3 with e3
    injection e3 with e3
    subst e3
    exact ⟨_, k3⟩
  obtain ⟨v2, hv2⟩ := hcell2
  have HFZ : Hid ((W.setCell ⟨g, i, none⟩ p.val).cell? ⟨g, k, none⟩ = some v2 ∧ (W.setCell ⟨g, i, none⟩ p.val).frozen? ⟨g, k, none⟩ = false) := Lib.hid ⟨hv2, f2⟩
  have i0 : (i : Int) < n := by omega
  have k0 : (k : Int) < n := by omega
  obtain ⟨sv, hsv⟩ : ∃ v, s.val = v := ⟨_, rfl⟩
  obtain ⟨pv, hpv⟩ : ∃ v, p.val = v := ⟨_, rfl⟩
  have o1 : ∃ a b d, sv = .slice a b d := ⟨_, _, _, hsv.symm⟩
  have o2 : ∃ a b d, pv = .slice a b d := ⟨_, _, _, hpv.symm⟩
  rw [hsv] at HE HSC a1
  rw [hpv] at HE HSC HFZ a2
  clear h hs hp hn hi hk H1 H2 B1 B2 f2 hv2 hsv hpv
  obtain ⟨sa, sn, sc, rfl⟩ := o1
  obtain ⟨pa, pn, pc, rfl⟩ := o2
  go_enter Try.func65, Try.ntmps65
  go_upto_region 0 with fail
  refine wp_region_noPanic ?_
  refine wp_region_held (S := fun V => V.cell? ⟨hb, 0, none⟩ = some (.slice (some ⟨g, 0, none⟩) n c)) (by kernel_rfl) ?_
  change wpAnyH _ _ _ _ _ _ _ _ (World.drew _)
  have s0 : (fun V : World => V.cell? ⟨hb, 0, none⟩ = some (.slice (some ⟨g, 0, none⟩) n c)) W.drew := c0
  refine wpAnyH_take (i := 0) (v := .pointer (some ⟨hb, 0, none⟩)) rfl (by kernel_rfl) (by kernel_rfl) (by kernel_rfl) (fun _ _ _ h => h) (Or.inl ⟨by first | kernel_rfl | rfl, fun _ hS => by go_simp⟩) s0 ?_
  try simp only [Act.put, List.getElem_toArray, List.getElem_cons_zero, List.getElem_cons_succ, List.setIfInBounds_toArray, List.set_cons_zero, List.set_cons_succ]
  refine wpAnyH_take (i := 1) (v := .pointer (some ⟨hb, 0, none⟩)) rfl (by kernel_rfl) (by kernel_rfl) (by kernel_rfl) (fun _ _ _ h => h) (Or.inl ⟨by first | kernel_rfl | rfl, fun _ hS => by go_simp⟩) s0 ?_
  try simp only [Act.put, List.getElem_toArray, List.getElem_cons_zero, List.getElem_cons_succ, List.setIfInBounds_toArray, List.set_cons_zero, List.set_cons_succ]
  refine wpAnyH_take (i := 2) (v := .pointer (some ⟨hb, 0, none⟩)) rfl (by kernel_rfl) (by kernel_rfl) (by kernel_rfl) (fun _ _ _ h => h) (Or.inl ⟨by first | kernel_rfl | rfl, fun _ hS => by go_simp⟩) s0 ?_
  try simp only [Act.put, List.getElem_toArray, List.getElem_cons_zero, List.getElem_cons_succ, List.setIfInBounds_toArray, List.set_cons_zero, List.set_cons_succ]
  refine wpAnyH_take (i := 3) (v := .slice (some ⟨g, 0, none⟩) n c) rfl (by kernel_rfl) (by kernel_rfl) (by kernel_rfl) (fun _ _ _ h => h) (Or.inl ⟨by first | kernel_rfl | rfl, fun _ hS => by have k1 := hS; go_simp⟩) s0 ?_
  try simp only [Act.put, List.getElem_toArray, List.getElem_cons_zero, List.getElem_cons_succ, List.setIfInBounds_toArray, List.set_cons_zero, List.set_cons_succ]
  refine wpAnyH_take (i := 4) (v := .int .i64 (i : Int)) rfl (by kernel_rfl) (by kernel_rfl) (by kernel_rfl) (fun _ _ _ h => h) (Or.inl ⟨by first | kernel_rfl | rfl, fun _ hS => by go_simp⟩) s0 ?_
  try simp only [Act.put, List.getElem_toArray, List.getElem_cons_zero, List.getElem_cons_succ, List.setIfInBounds_toArray, List.set_cons_zero, List.set_cons_succ]
  refine wpAnyH_take (i := 5) (v := .pointer (some ⟨hb, 0, none⟩)) rfl (by kernel_rfl) (by kernel_rfl) (by kernel_rfl) (fun _ _ _ h => h) (Or.inl ⟨by first | kernel_rfl | rfl, fun _ hS => by go_simp⟩) s0 ?_
  try simp only [Act.put, List.getElem_toArray, List.getElem_cons_zero, List.getElem_cons_succ, List.setIfInBounds_toArray, List.set_cons_zero, List.set_cons_succ]
  refine wpAnyH_take (i := 6) (v := .pointer (some ⟨hb, 0, none⟩)) rfl (by kernel_rfl) (by kernel_rfl) (by kernel_rfl) (fun _ _ _ h => h) (Or.inl ⟨by first | kernel_rfl | rfl, fun _ hS => by go_simp⟩) s0 ?_
  try simp only [Act.put, List.getElem_toArray, List.getElem_cons_zero, List.getElem_cons_succ, List.setIfInBounds_toArray, List.set_cons_zero, List.set_cons_succ]
  refine wpAnyH_take (i := 7) (v := .pointer (some ⟨hb, 0, none⟩)) rfl (by kernel_rfl) (by kernel_rfl) (by kernel_rfl) (fun _ _ _ h => h) (Or.inl ⟨by first | kernel_rfl | rfl, fun _ hS => by go_simp⟩) s0 ?_
  try simp only [Act.put, List.getElem_toArray, List.getElem_cons_zero, List.getElem_cons_succ, List.setIfInBounds_toArray, List.set_cons_zero, List.set_cons_succ]
  refine wpAnyH_take (i := 8) (v := .slice (some ⟨g, 0, none⟩) n c) rfl (by kernel_rfl) (by kernel_rfl) (by kernel_rfl) (fun _ _ _ h => h) (Or.inl ⟨by first | kernel_rfl | rfl, fun _ hS => by have k1 := hS; go_simp⟩) s0 ?_
  try simp only [Act.put, List.getElem_toArray, List.getElem_cons_zero, List.getElem_cons_succ, List.setIfInBounds_toArray, List.set_cons_zero, List.set_cons_succ]
  refine wpAnyH_take (i := 9) (v := .int .i64 (k : Int)) rfl (by kernel_rfl) (by kernel_rfl) (by kernel_rfl) (fun _ _ _ h => h) (Or.inl ⟨by first | kernel_rfl | rfl, fun _ hS => by go_simp⟩) s0 ?_
  try simp only [Act.put, List.getElem_toArray, List.getElem_cons_zero, List.getElem_cons_succ, List.setIfInBounds_toArray, List.set_cons_zero, List.set_cons_succ]
  refine wpAnyH_take (i := 10) (v := .pointer (some ⟨hb, 0, none⟩)) rfl (by kernel_rfl) (by kernel_rfl) (by kernel_rfl) (fun _ _ _ h => h) (Or.inl ⟨by first | kernel_rfl | rfl, fun _ hS => by go_simp⟩) s0 ?_
  try simp only [Act.put, List.getElem_toArray, List.getElem_cons_zero, List.getElem_cons_succ, List.setIfInBounds_toArray, List.set_cons_zero, List.set_cons_succ]
  refine wpAnyH_take (i := 11) (v := .pointer (some ⟨hb, 0, none⟩)) rfl (by kernel_rfl) (by kernel_rfl) (by kernel_rfl) (fun _ _ _ h => h) (Or.inl ⟨by first | kernel_rfl | rfl, fun _ hS => by go_simp⟩) s0 ?_
  try simp only [Act.put, List.getElem_toArray, List.getElem_cons_zero, List.getElem_cons_succ, List.setIfInBounds_toArray, List.set_cons_zero, List.set_cons_succ]
  refine wpAnyH_take (i := 12) (v := .pointer (some ⟨hb, 0, none⟩)) rfl (by kernel_rfl) (by kernel_rfl) (by kernel_rfl) (fun _ _ _ h => h) (Or.inl ⟨by first | kernel_rfl | rfl, fun _ hS => by go_simp⟩) s0 ?_
  try simp only [Act.put, List.getElem_toArray, List.getElem_cons_zero, List.getElem_cons_succ, List.setIfInBounds_toArray, List.set_cons_zero, List.set_cons_succ]
  refine wpAnyH_take (i := 13) (v := .slice (some ⟨g, 0, none⟩) n c) rfl (by kernel_rfl) (by kernel_rfl) (by kernel_rfl) (fun _ _ _ h => h) (Or.inl ⟨by first | kernel_rfl | rfl, fun _ hS => by have k1 := hS; go_simp⟩) s0 ?_
  try simp only [Act.put, List.getElem_toArray, List.getElem_cons_zero, List.getElem_cons_succ, List.setIfInBounds_toArray, List.set_cons_zero, List.set_cons_succ]
  refine wpAnyH_take (i := 14) (v := .int .i64 (k : Int)) rfl (by kernel_rfl) (by kernel_rfl) (by kernel_rfl) (fun _ _ _ h => h) (Or.inl ⟨by first | kernel_rfl | rfl, fun _ hS => by go_simp⟩) s0 ?_
  try simp only [Act.put, List.getElem_toArray, List.getElem_cons_zero, List.getElem_cons_succ, List.setIfInBounds_toArray, List.set_cons_zero, List.set_cons_succ]
  refine wpAnyH_take (i := 17) (v := .pointer (some ⟨hb, 0, none⟩)) rfl (by kernel_rfl) (by kernel_rfl) (by kernel_rfl) (fun _ _ _ h => h) (Or.inl ⟨by first | kernel_rfl | rfl, fun _ hS => by go_simp⟩) s0 ?_
  try simp only [Act.put, List.getElem_toArray, List.getElem_cons_zero, List.getElem_cons_succ, List.setIfInBounds_toArray, List.set_cons_zero, List.set_cons_succ]
  refine wpAnyH_take (i := 18) (v := .pointer (some ⟨hb, 0, none⟩)) rfl (by kernel_rfl) (by kernel_rfl) (by kernel_rfl) (fun _ _ _ h => h) (Or.inl ⟨by first | kernel_rfl | rfl, fun _ hS => by go_simp⟩) s0 ?_
  try simp only [Act.put, List.getElem_toArray, List.getElem_cons_zero, List.getElem_cons_succ, List.setIfInBounds_toArray, List.set_cons_zero, List.set_cons_succ]
  refine wpAnyH_take (i := 19) (v := .pointer (some ⟨hb, 0, none⟩)) rfl (by kernel_rfl) (by kernel_rfl) (by kernel_rfl) (fun _ _ _ h => h) (Or.inl ⟨by first | kernel_rfl | rfl, fun _ hS => by go_simp⟩) s0 ?_
  try simp only [Act.put, List.getElem_toArray, List.getElem_cons_zero, List.getElem_cons_succ, List.setIfInBounds_toArray, List.set_cons_zero, List.set_cons_succ]
  refine wpAnyH_take (i := 20) (v := .slice (some ⟨g, 0, none⟩) n c) rfl (by kernel_rfl) (by kernel_rfl) (by kernel_rfl) (fun _ _ _ h => h) (Or.inl ⟨by first | kernel_rfl | rfl, fun _ hS => by have k1 := hS; go_simp⟩) s0 ?_
  try simp only [Act.put, List.getElem_toArray, List.getElem_cons_zero, List.getElem_cons_succ, List.setIfInBounds_toArray, List.set_cons_zero, List.set_cons_succ]
  refine wpAnyH_take (i := 21) (v := .int .i64 (i : Int)) rfl (by kernel_rfl) (by kernel_rfl) (by kernel_rfl) (fun _ _ _ h => h) (Or.inl ⟨by first | kernel_rfl | rfl, fun _ hS => by go_simp⟩) s0 ?_
  try simp only [Act.put, List.getElem_toArray, List.getElem_cons_zero, List.getElem_cons_succ, List.setIfInBounds_toArray, List.set_cons_zero, List.set_cons_succ]
  refine wpAnyH_take (i := 15) (v := .pointer (some ⟨g, k, none⟩)) rfl (by kernel_rfl) (by kernel_rfl) (by kernel_rfl) (fun _ _ _ h => h) (Or.inl ⟨by first | kernel_rfl | rfl, fun _ hS => by go_simp⟩) s0 ?_
  try simp only [Act.put, List.getElem_toArray, List.getElem_cons_zero, List.getElem_cons_succ, List.setIfInBounds_toArray, List.set_cons_zero, List.set_cons_succ]
  refine wpAnyH_take (i := 22) (v := .pointer (some ⟨g, i, none⟩)) rfl (by kernel_rfl) (by kernel_rfl) (by kernel_rfl) (fun _ _ _ h => h) (Or.inl ⟨by first | kernel_rfl | rfl, fun _ hS => by go_simp⟩) s0 ?_
  try simp only [Act.put, List.getElem_toArray, List.getElem_cons_zero, List.getElem_cons_succ, List.setIfInBounds_toArray, List.set_cons_zero, List.set_cons_succ]
  refine wpAnyH_ready (rs := [16, 23]) (by kernel_rfl) (by simp) ?_
  refine AllReadyH.cons rfl (fun K hK => ?_) (AllReadyH.cons rfl (fun K hK => ?_) AllReadyH.nil)
  · go_simp
    refine hK.out _ _ s0 (fun _ => ?_)
    clear hK K
    try simp only [Act.put, List.getElem_toArray, List.getElem_cons_zero, List.getElem_cons_succ, List.setIfInBounds_toArray, List.set_cons_zero, List.set_cons_succ]
    refine wpAnyH_ready (rs := [23]) (by kernel_rfl) (by simp) ?_
    refine AllReadyH.cons rfl (fun K hK => ?_) AllReadyH.nil
    go_simp
    refine hK.out _ _ s0 (fun _ => ?_)
    clear hK K
    try simp only [Act.put, List.getElem_toArray, List.getElem_cons_zero, List.getElem_cons_succ, List.setIfInBounds_toArray, List.set_cons_zero, List.set_cons_succ]
    refine wpAnyH_take (i := 24) (v := .pointer (some ⟨g, i, none⟩)) rfl (by kernel_rfl) (by kernel_rfl) (by kernel_rfl) (fun _ _ _ h => h) (Or.inl ⟨by first | kernel_rfl | rfl, fun _ hS => by go_simp⟩) s0 ?_
    try simp only [Act.put, List.getElem_toArray, List.getElem_cons_zero, List.getElem_cons_succ, List.setIfInBounds_toArray, List.set_cons_zero, List.set_cons_succ]
    refine wpAnyH_ready (rs := [25]) (by kernel_rfl) (by simp) ?_
    refine AllReadyH.cons rfl (fun K hK => ?_) AllReadyH.nil
    go_simp
    refine hK.out _ _ HSC.out.1 (fun _ => ?_)
    clear hK K
    try simp only [Act.put, List.getElem_toArray, List.getElem_cons_zero, List.getElem_cons_succ, List.setIfInBounds_toArray, List.set_cons_zero, List.set_cons_succ]
    refine wpAnyH_take (i := 26) (v := .pointer (some ⟨g, k, none⟩)) rfl (by kernel_rfl) (by kernel_rfl) (by kernel_rfl) (fun _ _ _ h => h) (Or.inl ⟨by first | kernel_rfl | rfl, fun _ hS => by go_simp⟩) HSC.out.1 ?_
    try simp only [Act.put, List.getElem_toArray, List.getElem_cons_zero, List.getElem_cons_succ, List.setIfInBounds_toArray, List.set_cons_zero, List.set_cons_succ]
    obtain ⟨f3, f4⟩ := HFZ.out
    refine wpAnyH_ready (rs := [27]) (by kernel_rfl) (by simp) ?_
    refine AllReadyH.cons rfl (fun K hK => ?_) AllReadyH.nil
    go_simp
    refine hK.out _ _ HSC.out.2 (fun _ => ?_)
    clear hK K
    try simp only [Act.put, List.getElem_toArray, List.getElem_cons_zero, List.getElem_cons_succ, List.setIfInBounds_toArray, List.set_cons_zero, List.set_cons_succ]
    refine wpAnyH_done (by kernel_rfl) (NoPanic.normal ?_) _
    try simp only [Act.put, List.getElem_toArray, List.getElem_cons_zero, List.getElem_cons_succ, List.setIfInBounds_toArray, List.set_cons_zero, List.set_cons_succ]
    go_wp2_with fail
    go_end0
    exact ⟨rfl, HE.out⟩
  · go_simp
    refine hK.out _ _ s0 (fun _ => ?_)
    clear hK K
    try simp only [Act.put, List.getElem_toArray, List.getElem_cons_zero, List.getElem_cons_succ, List.setIfInBounds_toArray, List.set_cons_zero, List.set_cons_succ]
    refine wpAnyH_ready (rs := [16]) (by kernel_rfl) (by simp) ?_
    refine AllReadyH.cons rfl (fun K hK => ?_) AllReadyH.nil
    go_simp
    refine hK.out _ _ s0 (fun _ => ?_)
    clear hK K
    try simp only [Act.put, List.getElem_toArray, List.getElem_cons_zero, List.getElem_cons_succ, List.setIfInBounds_toArray, List.set_cons_zero, List.set_cons_succ]
    refine wpAnyH_take (i := 24) (v := .pointer (some ⟨g, i, none⟩)) rfl (by kernel_rfl) (by kernel_rfl) (by kernel_rfl) (fun _ _ _ h => h) (Or.inl ⟨by first | kernel_rfl | rfl, fun _ hS => by go_simp⟩) s0 ?_
    try simp only [Act.put, List.getElem_toArray, List.getElem_cons_zero, List.getElem_cons_succ, List.setIfInBounds_toArray, List.set_cons_zero, List.set_cons_succ]
    refine wpAnyH_ready (rs := [25]) (by kernel_rfl) (by simp) ?_
    refine AllReadyH.cons rfl (fun K hK => ?_) AllReadyH.nil
    go_simp
    refine hK.out _ _ HSC.out.1 (fun _ => ?_)
    clear hK K
    try simp only [Act.put, List.getElem_toArray, List.getElem_cons_zero, List.getElem_cons_succ, List.setIfInBounds_toArray, List.set_cons_zero, List.set_cons_succ]
    refine wpAnyH_take (i := 26) (v := .pointer (some ⟨g, k, none⟩)) rfl (by kernel_rfl) (by kernel_rfl) (by kernel_rfl) (fun _ _ _ h => h) (Or.inl ⟨by first | kernel_rfl | rfl, fun _ hS => by go_simp⟩) HSC.out.1 ?_
    try simp only [Act.put, List.getElem_toArray, List.getElem_cons_zero, List.getElem_cons_succ, List.setIfInBounds_toArray, List.set_cons_zero, List.set_cons_succ]
    obtain ⟨f3, f4⟩ := HFZ.out
    refine wpAnyH_ready (rs := [27]) (by kernel_rfl) (by simp) ?_
    refine AllReadyH.cons rfl (fun K hK => ?_) AllReadyH.nil
    go_simp
    refine hK.out _ _ HSC.out.2 (fun _ => ?_)
    clear hK K
    try simp only [Act.put, List.getElem_toArray, List.getElem_cons_zero, List.getElem_cons_succ, List.setIfInBounds_toArray, List.set_cons_zero, List.set_cons_succ]
    refine wpAnyH_done (by kernel_rfl) (NoPanic.normal ?_) _
    try simp only [Act.put, List.getElem_toArray, List.getElem_cons_zero, List.getElem_cons_succ, List.setIfInBounds_toArray, List.set_cons_zero, List.set_cons_succ]
    go_wp2_with fail
    go_end0
    exact ⟨rfl, HE.out⟩
end Go.Proofs.Ytkodhlaojlgejaa
namespace Go.Proofs.Ytkodhlaojlgejaa
open Go.RowKit
/-- As their first entries stand. -/
def leG (s t : Gl) : Prop := leE (hdE s) (hdE t)
theorem leG_trans (a b c : Gl) (h : leG a b) (k : leG b c) : leG a c := leE_trans _ _ _ h k
theorem leG_refl (a : Gl) : leG a a := leE_refl _
theorem lit_g (w : World) (a : Option Addr) (n c : Nat) (l : List En) (hn : l.length = n) : Lies (w.alloc (.cells #[.slice a n c] 22)) (some ⟨w.heap.size, 0, none⟩) (gvals [⟨a, c, l⟩]) := by
  subst hn
  refine .inr ⟨_, rfl, fun j u hu => ?_⟩
  have hj : j = 0 := by
    have := (List.getElem?_eq_some_iff.1 hu).1
    simp [gvals] at this
    omega
  subst hj
  simp [gvals, Gl.val] at hu
  subst hu
  have := heap_alloc_new w (.cells #[.slice a l.length c] 22)
  have e : (⟨w.heap.size, 0, none⟩ : Addr).add 0 = ⟨w.heap.size, 0, none⟩ := rfl
  rw [e]
  simp only [World.cell?, this]
  rfl
theorem Hp.grown {w0 W w8 : World} {hb c c' : Nat} {A A' : Option Addr} {T : List Gl} {x : Gl} {o : Obj} (h : Hp w0 W hb A c T) (hx : GIn w0 x) (hr : Grow w8 w0.heap.size A' c' (T ++ [x])) (hbel : Below w0.heap.size (W.alloc o) w8) (hg : (W.alloc o).grownBy w8 (Value.slice A T.length c).ownBlock) :
    (w8.cell? ⟨hb, 0, none⟩ = some (.slice A T.length c) ∧ w8.frozen? ⟨hb, 0, none⟩ = false) ∧ Hp w0 (w8.setCell ⟨hb, 0, none⟩ (.slice A' (T.length + 1) c')) hb A' c' (T ++ [x]) ∧ Bes W (w8.setCell ⟨hb, 0, none⟩ (.slice A' (T.length + 1) c')) := by
  have hlt := (Array.getElem?_eq_some_iff.1 h.obj).1
  have hoth : ∀ (j : Nat) (cs : Array Value) (ty : TypeId) (fr : Nat × Nat), W.heap[j]? = some (.cells cs ty fr) → ty ≠ 22 → w8.heap[j]? = some (.cells cs ty fr) := fun j cs ty fr e ht => by
    have hj := (Array.getElem?_eq_some_iff.1 e).1
    rw [hg.block j (by rw [World.size_alloc]; omega) (fun e' => ?_), RowKit.Below.heap_alloc _ _ _ hj, e]
    rcases h.row.2 with ⟨q, _⟩ | ⟨g', cap, cur, q, _, h2, _⟩
    · rw [q] at e'
      simp [Value.ownBlock] at e'
    · rw [q] at e'
      have : j = g' := by simpa [Value.ownBlock] using e'
      subst this
      rw [h2] at e
      injection e with e
      injection e with _ e
      exact ht e.symm
  have ho := hoth hb _ _ _ h.obj (by decide)
  have hne : ∀ ad, A' = some ad → ad.block ≠ hb := fun ad ha e => by
    subst ha
    rcases hr.2 with ⟨q, _⟩ | ⟨g', cap, cur, q, _, h2, _⟩
    · cases q
    · injection q with q
      injection q with q
      subst q
      rw [show g' = hb from e, ho] at h2
      injection h2 with h2
      injection h2 with _ h2
      exact absurd h2 (by decide)
  refine ⟨⟨by simp [World.cell?, ho], by simp [World.frozen?, ho]⟩, ⟨h.low, ?_, ?_, ?_, fun s hs => ?_⟩, ?_⟩
  · rw [List.length_append, List.length_singleton]
    simp [World.setCell, Array.getElem?_modify, ho]
  · exact own_kp hr ((Kp.refl (fun j => j ≠ hb) w8).set hb 0 _ (by simp)) (fun ad ha => hne ad ha)
  · have b := ((h.bel.alloc h.bel.size o).trans hbel)
    exact ((Kp.of_below b).set hb 0 _ (by have := h.low; omega)).below (fun _ hk => hk)
  · rcases List.mem_append.1 hs with q | q
    · exact h.ins s q
    · rw [List.mem_singleton.1 q]; exact hx
  · have hB : Bes W w8 := ⟨by have := hg.size; rw [World.size_alloc] at this; omega, fun g cs fr e => hoth g cs _ fr e (by decide)⟩
    exact hB.set ho (by decide)
set_option maxRecDepth 100000 in
set_option maxHeartbeats 8000000 in
theorem put_any {w0 W : World} {hb : Nat} {A : Option Addr} {c : Nat} {T : List Gl} (h : Hp w0 W hb A c T) (hq : Heaped leG T) (x : Gl) (hx : GIn w0 x) (h9 : (T.length + 1) * 24 ≤ 140737488355328) : Calls Try.prog 58 #[.pointer (some ⟨hb, 0, none⟩), x.val] W fun e w' => e = .returned (.tuple #[]) ∧ ∃ (A' : Option Addr) (c' : Nat) (T' : List Gl), Hp w0 w' hb A' c' T' ∧ Heaped leG T' ∧ T'.Perm (T ++ [x]) ∧ Bes W w' := by
  have HH := Lib.hid h
  have HX := Lib.hid hx
  have HQ := Lib.hid hq
  obtain ⟨n, hn⟩ : ∃ n, T.length = n := ⟨_, rfl⟩
  have HN := Lib.hid hn
  have c0 := h.cells.1
  rw [hn] at c0 h9
  have HROW := Lib.hid h.row
  obtain ⟨xa, xc, xl⟩ := x
  unfold Gl.val
  obtain ⟨xn, hxn⟩ : ∃ m, xl.length = m := ⟨_, rfl⟩
  simp only
  rw [hxn]
  have HXN := Lib.hid hxn
  have HLOW : Hid (w0.heap.size ≤ W.heap.size) := Lib.hid h.bel.size
  clear h hx hq hn hxn
  go_enter Try.func58, Try.ntmps58
  go_upto_region 0 with fail
  go_upto_region 1 with (refine wpList_append_grow _ (by rfl) (.tmp 9) (.tmp 11) (by rfl) w0.heap.size A c T [⟨xa, xc, xl⟩] _ n 1 1 (by simp [Act.eval]) (by simp [Act.eval]) HN.out rfl (HROW.out.alloc _) (lit_g W xa xn xc xl HXN.out) (by have := HLOW.out; simp; omega) (by have := HN.out; simp only [List.length_singleton]; omega) ?_; intro A8 c8 w8 r8 b8 g8; rw [← HN.out] at g8; have hG := HH.out.grown HX.out r8 b8 g8; rw [HN.out] at hG; obtain ⟨⟨d0, f0⟩, hG⟩ := hG; have HG := Lib.hid hG; clear r8 b8 g8 hG)
  clear d0 f0 c0
  obtain ⟨w9, hw9⟩ : ∃ w9, w8.setCell ⟨hb, 0, none⟩ (.slice A8 (n + 1) c8) = w9 := ⟨_, rfl⟩
  rw [hw9] at HG ⊢
  clear hw9
  obtain ⟨U, hU⟩ : ∃ U, T ++ [(⟨xa, xc, xl⟩ : Gl)] = U := ⟨_, rfl⟩
  have HU := Lib.hid hU
  rw [hU] at HG
  have HUL : Hid (U.length = n + 1) := Lib.hid (by rw [← hU, List.length_append, HN.out]; rfl)
  have HUP : Hid (HeapUp leG U n) := Lib.hid (by rw [← hU, ← HN.out]; exact heaped_up HQ.out _)
  clear hU
  have w1 : wrap64 ((n : Int) + 1 - 1) = (n : Int) := by unfold wrap64; omega
  have w2 : wrap64 (((n + 1 : Nat) : Int) - 1) = (n : Int) := by unfold wrap64; omega
  go_wp2_with (go_at_call 59; refine (hlen_any HG.out.1).mono ?_; rw [HUL.out]; rintro e w' ⟨rfl, hw'⟩; subst hw')
  try rw [w1]
  try rw [w2]
  clear w1 w2
  go_loopw [4] (fun t4 wr => ∃ (k : Nat) (A2 : Option Addr) (c2 : Nat) (T2 : List Gl), t4 = .int .i64 k ∧ Hid (Hp w0 wr hb A2 c2 T2 ∧ HeapUp leG T2 k ∧ T2.Perm U ∧ k ≤ n ∧ Bes W wr)) (fun t4 _ => (intOf t4).toNat)
  case atStart => exact ⟨n, A8, c8, U, rfl, Lib.hid ⟨HG.out.1, HUP.out, List.Perm.refl _, Nat.le_refl _, HG.out.2⟩⟩
  case round =>
    obtain ⟨k, A2, c2, T2, rfl, hr⟩ := hrel
    have HL2 : Hid (T2.length = n + 1) := Lib.hid (by rw [hr.out.2.2.1.length_eq, HUL.out])
    by_cases hk : k = 0
    · have z1 : ¬ (0 : Int) < k := by omega
      have z2 : ¬ 0 < k := by omega
      have HK := Lib.hid hk
      clear hk
      go_wp2_with fail
      go_end0
      exact ⟨rfl, A2, c2, T2, hr.out.1, up_done hr.out.2.1 (fun _ _ h0 => by have := HK.out; omega), by rw [HU.out]; exact hr.out.2.2.1, hr.out.2.2.2.2⟩
    · have z1 : (0 : Int) < k := by omega
      have z2 : 0 < k := by omega
      have z3 : (k : Int) ≤ 4611686018427387904 := by have := hr.out.2.2.2.1; omega
      have HZ := Lib.hid (And.intro z2 z3)
      obtain ⟨m, hm⟩ : ∃ m, (k - 1) / 2 = m := ⟨_, rfl⟩
      have HM := Lib.hid hm
      have HMK : Hid (m < k ∧ k < T2.length ∧ m < T2.length) := Lib.hid (by have := hr.out.2.2.2.1; have := HL2.out; omega)
      have hs := List.getElem?_eq_getElem (l := T2) (i := k) HMK.out.2.1
      have hp := List.getElem?_eq_getElem (l := T2) (i := m) HMK.out.2.2
      generalize T2[k]'HMK.out.2.1 = s at hs
      generalize T2[m]'HMK.out.2.2 = p at hp
      have HSP := Lib.hid (And.intro hs hp)
      clear hs hp z3 hm
      by_cases hd : ordE (hdE s) (hdE p) < 0
      · have HD := Lib.hid hd
        have hdd : decide (ordE (hdE s) (hdE p) < 0) = true := decide_eq_true hd
        have HDD := Lib.hid hdd
        clear hd hdd
        go_wp2_with (first
          | (go_at_call 64; refine (parent_any k _ HZ.out.1 HZ.out.2).mono ?_; rw [HM.out]; rintro e w' ⟨rfl, hw'⟩; subst hw')
          | (go_at_call 63; refine (isAhead_any hr.out.1 k m s p HSP.out.1 HSP.out.2).mono ?_; rw [HDD.out]; rintro e w5 ⟨rfl, b5⟩; have B5 := Lib.hid b5; have H5 : Hid (Hp w0 w5 hb A2 c2 T2) := Lib.hid (hr.out.1.kept b5); clear b5)
          | (go_at_call 65; refine (swap_any H5.out k m HMK.out.2.1 HMK.out.2.2).mono ?_; rintro e w6 ⟨rfl, h6, b6⟩; have H6 : Hid (Hp w0 w6 hb A2 c2 (swapL T2 k m) ∧ Bes W w6) := Lib.hid ⟨h6, hr.out.2.2.2.2.trans ((Bes.of_below B5.out).trans b6)⟩; clear h6 b6))
        go_roundw
        case rel => exact ⟨m, A2, c2, swapL T2 k m, by go_num, Lib.hid ⟨H6.out.1, by have := up_step leG_trans hr.out.2.1 HZ.out.1 HSP.out.1 (by rw [HM.out]; exact HSP.out.2) (by have := HD.out; unfold leG leE; omega); rwa [HM.out] at this, (swapL_perm HMK.out.2.1 HMK.out.2.2).trans hr.out.2.2.1, by have := HMK.out.1; have := hr.out.2.2.2.1; omega, H6.out.2⟩⟩
        case measure => have := HMK.out.1; simp [intOf]; omega
      · have hdd : decide (ordE (hdE s) (hdE p) < 0) = false := decide_eq_false hd
        have HD := Lib.hid hd
        have HDD := Lib.hid hdd
        clear hd hdd
        go_wp2_with (first
          | (go_at_call 64; refine (parent_any k _ HZ.out.1 HZ.out.2).mono ?_; rw [HM.out]; rintro e w' ⟨rfl, hw'⟩; subst hw')
          | (go_at_call 63; refine (isAhead_any hr.out.1 k m s p HSP.out.1 HSP.out.2).mono ?_; rw [HDD.out]; rintro e w5 ⟨rfl, b5⟩; have B5 := Lib.hid b5; have H5 : Hid (Hp w0 w5 hb A2 c2 T2) := Lib.hid (hr.out.1.kept b5); clear b5))
        go_end0
        exact ⟨rfl, A2, c2, T2, H5.out, up_done hr.out.2.1 (fun s' p' _ h1 h2 => by
          rw [HSP.out.1] at h1
          rw [HM.out, HSP.out.2] at h2
          injection h1 with h1
          injection h2 with h2
          subst h1 h2
          exact not_ahead (by have := HD.out; omega)), by rw [HU.out]; exact hr.out.2.2.1, hr.out.2.2.2.2.trans (Bes.of_below B5.out)⟩
end Go.Proofs.Ytkodhlaojlgejaa
namespace Go.Proofs.Ytkodhlaojlgejaa
open Go.RowKit
theorem sizeGl (W : World) : (sizeOf (Try.prog.elem 42)).run Try.prog W = .ok 1 W := by
  have h : Try.prog.elem 42 = 22 := by kernel_rfl
  obtain ⟨i, hi, hz0, hz1, hz2⟩ := info_parts info22
  rw [h]
  simp [sizeOf, typeInfo, hi, hz1]
theorem underGl : Try.prog.underlying 42 = some (.slice (Try.prog.elem 42)) := by kernel_rfl
/-- l[:k] -/
theorem slice_highG (A : Option Addr) (k n c : Nat) (hk : k ≤ n) (hc : n ≤ c) : ∀ W, (Instr.slice 42 (.slice A n c) none (some (.int .i64 (k : Int))) none).run Try.prog W = .ok (.slice A k c) W := fun W => by
  rw [run_slice_h (P := Try.prog) W _ A n c underGl .i64 (k : Int) (by omega) (by omega), sizeGl]
  cases A <;> simp [Result.andThen, sliced, Addr.add]
/-- The heap's row is cut. -/
theorem Hp.cut {w0 W : World} {hb c : Nat} {A : Option Addr} {T : List Gl} (h : Hp w0 W hb A c T) {k : Nat} (hk : k ≤ T.length) : (W.cell? ⟨hb, 0, none⟩ = some (.slice A T.length c) ∧ W.frozen? ⟨hb, 0, none⟩ = false) ∧ Hp w0 (W.setCell ⟨hb, 0, none⟩ (.slice A k c)) hb A c (T.take k) ∧ Bes W (W.setCell ⟨hb, 0, none⟩ (.slice A k c)) := by
  have ho := h.obj
  have hne : ∀ ad, A = some ad → ad.block ≠ hb := fun ad ha e => by
    subst ha
    rcases h.row.2 with ⟨q, _⟩ | ⟨g', cap, cur, q, _, h2, _⟩
    · cases q
    · injection q with q
      injection q with q
      subst q
      rw [show g' = hb from e, ho] at h2
      injection h2 with h2
      injection h2 with _ h2
      exact absurd h2 (by decide)
  refine ⟨⟨by simp [World.cell?, ho], by simp [World.frozen?, ho]⟩, ⟨h.low, ?_, ?_, ?_, fun s hs => h.ins s (List.mem_of_mem_take hs)⟩, (Bes.refl W).set ho (by decide)⟩
  · rw [List.length_take, Nat.min_eq_left hk]
    simp [World.setCell, Array.getElem?_modify, ho]
  · exact own_kp (h.row.high k hk) ((Kp.refl (fun j => j ≠ hb) W).set hb 0 _ (by simp)) (fun ad ha => hne ad ha)
  · exact ((Kp.of_below h.bel).set hb 0 _ (by have := h.low; omega)).below (fun _ hk => hk)
/-- Both children stand behind. -/
theorem leG_of {s t : Gl} (h : ordE (hdE s) (hdE t) < 0) : leG s t := by unfold leG leE; omega
theorem kids_two {T2 : List Gl} {m0 m1 k : Nat} {a b x : Gl} (hk : ∀ i, 0 < i → (i - 1) / 2 = k → i = m0 ∨ i = m1) (hb : T2[m0]? = some b) (ha : T2[m1]? = some a) (h1 : leG x b) (h2 : leG x a) : ∀ (i : Nat) (s' : Gl), 0 < i → (i - 1) / 2 = k → T2[i]? = some s' → leG x s' := fun i s' h0 hi hs => by
  rcases hk i h0 hi with e | e
  · rw [e, hb] at hs
    injection hs with hs
    exact hs ▸ h1
  · rw [e, ha] at hs
    injection hs with hs
    exact hs ▸ h2
theorem kids_one {T2 : List Gl} {m0 m1 k : Nat} {b : Gl} (hk : ∀ i, 0 < i → (i - 1) / 2 = k → i = m0 ∨ i = m1) (hb : T2[m0]? = some b) (hm : T2.length ≤ m1) : ∀ (i : Nat) (s' : Gl), 0 < i → (i - 1) / 2 = k → T2[i]? = some s' → leG b s' := fun i s' h0 hi hs => by
  rcases hk i h0 hi with e | e
  · rw [e, hb] at hs
    injection hs with hs
    exact hs ▸ leG_refl _
  · have := (List.getElem?_eq_some_iff.1 hs).1
    omega
theorem down_last {T2 : List Gl} {k : Nat} {q x : Gl} (hq : T2[k]? = some q) (h1 : leG q x) (h2 : ∀ (i : Nat) (s' : Gl), 0 < i → (i - 1) / 2 = k → T2[i]? = some s' → leG x s') : ∀ (i : Nat) (s p : Gl), 0 < i → (i - 1) / 2 = k → T2[i]? = some s → T2[k]? = some p → leG p s := fun i s p h0 hi hs hp => by
  rw [hq] at hp
  injection hp with hp
  exact hp ▸ leG_trans _ _ _ h1 (h2 i s h0 hi hs)
set_option maxRecDepth 100000 in
set_option maxHeartbeats 16000000 in
theorem take_any {w0 W : World} {hb : Nat} {A : Option Addr} {c : Nat} {T : List Gl} (h : Hp w0 W hb A c T) (hq : Heaped leG T) (hne : T ≠ []) (h9 : T.length * 24 ≤ 140737488355328) : Calls Try.prog 60 #[.pointer (some ⟨hb, 0, none⟩)] W fun e w' => ∃ (s : Gl) (A' : Option Addr) (c' : Nat) (T' : List Gl), e = .returned s.val ∧ T[0]? = some s ∧ Hp w0 w' hb A' c' T' ∧ Heaped leG T' ∧ (s :: T').Perm T ∧ Bes W w' := by
  have HH := Lib.hid h
  have HQ := Lib.hid hq
  obtain ⟨n, hn⟩ : ∃ n, T.length = n + 1 := ⟨T.length - 1, by have := List.length_pos_iff.2 hne; omega⟩
  have HN := Lib.hid hn
  have hs := List.getElem?_eq_getElem (l := T) (i := 0) (by omega)
  generalize T[0]'(by omega) = s at hs
  obtain ⟨g, rfl, -⟩ := h.at_ hs
  obtain ⟨sn, hsn⟩ : ∃ m, s.l.length = m := ⟨_, rfl⟩
  have HS0 := Lib.hid hs
  have HSN := Lib.hid hsn
  have HC : Hid (W.cell? ⟨hb, 0, none⟩ = some (.slice (some ⟨g, 0, none⟩) (n + 1) c) ∧ W.cell? ⟨g, 0, none⟩ = some (.slice s.a sn s.c)) := Lib.hid (by
    obtain ⟨g1, e1, a1⟩ := h.at_ hs
    injection e1 with e1
    injection e1 with e1
    subst e1
    have := h.cells.1
    rw [hn] at this
    unfold Gl.val at a1
    rw [hsn] at a1
    exact ⟨this, a1⟩)
  have hn9 : (n : Int) + 1 ≤ 5864062014805 := by omega
  have w1 : wrap64 ((n : Int) + 1 - 1) = (n : Int) := by unfold wrap64; omega
  have w2 : wrap64 (((n + 1 : Nat) : Int) - 1) = (n : Int) := by unfold wrap64; omega
  have n1 : (0 : Int) < (n : Int) + 1 := by omega
  have n2 : 0 < n + 1 := by omega
  clear h hq hne h9 hn hs hsn
  go_enter Try.func60, Try.ntmps60
  go_upto_region 1 with fail
  go_region_held3 (fun V => V.cell? ⟨hb, 0, none⟩ = some (.slice (some ⟨g, 0, none⟩) (n + 1) c) ∧ V.cell? ⟨g, 0, none⟩ = some (.slice s.a sn s.c)) (first | exact HC.out | go_keep) (first
    | (go_at_call 59; refine (hlen_any (HH.out.kept (Below.refl _ _).drew)).mono ?_; rw [HN.out]; rintro e w' ⟨rfl, hw'⟩; subst hw'))
  have w3 : IntKind.i64.wrap (n : Int) = (n : Int) := by rw [IntKind.wrap_i64]; omega
  try rw [w3]
  have HN9 := Lib.hid hn9
  clear w1 w2 w3 n1 n2 hn9
  have HP1 : Hid (Hp w0 W.drew hb (some ⟨g, 0, none⟩) c T) := Lib.hid (HH.out.kept (Below.refl _ _).drew)
  have HSW : Hid (∀ V, Hp w0 V hb (some ⟨g, 0, none⟩) c T → Calls Try.prog 65 #[.pointer (some ⟨hb, 0, none⟩), .int .i64 0, .int .i64 n] V fun e w' => e = .returned (.tuple #[]) ∧ Hp w0 w' hb (some ⟨g, 0, none⟩) c (swapL T 0 n) ∧ Bes V w') := Lib.hid (fun V hV => swap_any hV 0 n (by have := HN.out; omega) (by have := HN.out; omega))
  go_upto_region 3 with (go_at_call 65; refine (HSW.out _ HP1.out).mono ?_; rintro e w5 ⟨rfl, h5, b5⟩; have H5 : Hid (Hp w0 w5 hb (some ⟨g, 0, none⟩) c (swapL T 0 n) ∧ Bes W w5) := Lib.hid ⟨h5, b5⟩; clear h5 b5)
  have HSL : Hid ((swapL T 0 n).length = n + 1) := Lib.hid (by rw [swapL_len]; exact HN.out)
  obtain ⟨⟨c0, f0⟩, h6⟩ := H5.out.1.cut (k := n) (by have := HSL.out; omega)
  rw [HSL.out] at c0
  have sh := slice_highG (some ⟨g, 0, none⟩) n (n + 1) c (by omega) (by have := (own_cap H5.out.1.row).1; have := HSL.out; omega)
  have H6 : Hid (Hp w0 (w5.setCell ⟨hb, 0, none⟩ (.slice (some ⟨g, 0, none⟩) n c)) hb (some ⟨g, 0, none⟩) c ((swapL T 0 n).take n) ∧ Bes W (w5.setCell ⟨hb, 0, none⟩ (.slice (some ⟨g, 0, none⟩) n c))) := Lib.hid ⟨h6.1, H5.out.2.trans h6.2⟩
  clear h6
  go_upto_region 4 with fail
  clear c0 f0 sh
  obtain ⟨w6, hw6⟩ : ∃ w6, w5.setCell ⟨hb, 0, none⟩ (.slice (some ⟨g, 0, none⟩) n c) = w6 := ⟨_, rfl⟩
  rw [hw6] at H6 ⊢
  clear hw6
  obtain ⟨U, hU⟩ : ∃ U, (swapL T 0 n).take n = U := ⟨_, rfl⟩
  have hget := swapL_get (T := T) (i := 0) (k := n) (by have := HN.out; omega) (by have := HN.out; omega)
  have HUL : Hid (U.length = n) := Lib.hid (by rw [← hU, List.length_take, HSL.out]; omega)
  have HUD : Hid (HeapDown leG U 0) := Lib.hid (heaped_down HQ.out (fun i h0 hi => by
    have hi' : i < n := by have := HUL.out; omega
    rw [← hU, List.getElem?_take_of_lt hi', hget, if_neg (by omega), if_neg (by omega)]))
  have HUP : Hid ((s :: U).Perm T) := Lib.hid (by
    have h1 : swapL T 0 n = U ++ [s] := by
      have h2 : (swapL T 0 n)[n]? = some s := by rw [hget, if_pos rfl]; exact HS0.out
      have h3 : swapL T 0 n = (swapL T 0 n).take (n + 1) := (List.take_of_length_le (by rw [HSL.out]; exact Nat.le_refl _)).symm
      rw [h3, List.take_add_one, h2, hU]
      rfl
    have h4 := swapL_perm (T := T) (i := 0) (k := n) (by have := HN.out; omega) (by have := HN.out; omega)
    rw [h1] at h4
    exact ((List.perm_append_comm (l₁ := [s]) (l₂ := U))).trans h4)
  rw [hU] at H6
  clear hU hget
  go_wp2_with fail
  go_loopw [5] (fun t5 wr => ∃ (k : Nat) (T2 : List Gl), t5 = .int .i64 k ∧ Hid (Hp w0 wr hb (some ⟨g, 0, none⟩) c T2 ∧ HeapDown leG T2 k ∧ T2.Perm U ∧ k ≤ n ∧ Bes W wr)) (fun t5 _ => n - (intOf t5).toNat)
  case atStart => exact ⟨0, U, rfl, Lib.hid ⟨H6.out.1, HUD.out, List.Perm.refl _, Nat.zero_le _, H6.out.2⟩⟩
  case round =>
    obtain ⟨k, T2, rfl, hr⟩ := hrel
    have HL2 : Hid (T2.length = n) := Lib.hid (by rw [hr.out.2.2.1.length_eq, HUL.out])
    have HK9 : Hid ((k : Int) ≤ 2305843009213693952) := Lib.hid (by have := hr.out.2.2.2.1; have := HN9.out; omega)
    obtain ⟨m0, hm0⟩ : ∃ m, 2 * k + 1 = m := ⟨_, rfl⟩
    have HM0 := Lib.hid hm0
    by_cases h1 : m0 < n
    · have z0 : (m0 : Int) < n := by omega
      obtain ⟨m1, hm1⟩ : ∃ m, m0 + 1 = m := ⟨_, rfl⟩
      have HM1 := Lib.hid hm1
      have Z1 : Hid (wrap64 ((m0 : Int) + 1) = (m1 : Int)) := Lib.hid (by have := HN9.out; unfold wrap64; omega)
      have hbm := List.getElem?_eq_getElem (l := T2) (i := m0) (by have := HL2.out; omega)
      generalize T2[m0]'(by have := HL2.out; omega) = b at hbm
      have HB := Lib.hid hbm
      have H1 := Lib.hid h1
      clear hm0 hm1 hbm
      go_upto_region 7 with (go_at_call 66; refine (child_any k _ HK9.out).mono ?_; rw [HM0.out]; rintro e w' ⟨rfl, hw'⟩; subst hw')
      have z1 := Z1.out
      have KID : Hid (∀ i, 0 < i → (i - 1) / 2 = k → i = m0 ∨ i = m1) := Lib.hid (fun i h0 hi => by have := HM0.out; have := HM1.out; omega)
      have PAR : Hid ((0 < m0 ∧ (m0 - 1) / 2 = k ∧ k < m0) ∧ 0 < m1 ∧ (m1 - 1) / 2 = k ∧ k < m1) := Lib.hid (by have := HM0.out; have := HM1.out; omega)
      by_cases h2 : m1 < n
      · have y1 : (m1 : Int) < n := by omega
        have ham := List.getElem?_eq_getElem (l := T2) (i := m1) (by have := HL2.out; omega)
        generalize T2[m1]'(by have := HL2.out; omega) = a at ham
        have HA := Lib.hid ham
        have H2 := Lib.hid h2
        clear ham
        by_cases h3 : ordE (hdE a) (hdE b) < 0
        · have H3 := Lib.hid (leG_of h3)
          have HDD := Lib.hid (decide_eq_true h3)
          clear h3
          go_upto_region 9 with (go_at_call 63; refine (isAhead_any hr.out.1 m1 m0 a b HA.out HB.out).mono ?_; rw [HDD.out]; rintro e w7 ⟨rfl, b7⟩; have H7 : Hid (Hp w0 w7 hb (some ⟨g, 0, none⟩) c T2 ∧ Bes W w7) := Lib.hid ⟨hr.out.1.kept b7, hr.out.2.2.2.2.trans (Bes.of_below b7)⟩; clear b7)
          try rw [z1]
          clear z1
          have hC : Hid ((Hp w0 w7 hb (some ⟨g, 0, none⟩) c T2 ∧ Bes W w7) ∧ (0 < m1 ∧ (m1 - 1) / 2 = k ∧ m1 < n ∧ k < m1) ∧ T2[m1]? = some a ∧ ∀ i s', 0 < i → (i - 1) / 2 = k → T2[i]? = some s' → leG a s') := Lib.hid ⟨H7.out, ⟨PAR.out.2.1, PAR.out.2.2.1, H2.out, PAR.out.2.2.2⟩, HA.out, kids_two KID.out HB.out HA.out H3.out (leG_refl _)⟩
          have hqm := List.getElem?_eq_getElem (l := T2) (i := k) (by have := HL2.out; have := hC.out.2.1; omega)
          generalize T2[k]'(by have := HL2.out; have := hC.out.2.1; omega) = q at hqm
          have HQM := Lib.hid hqm
          clear hqm
          by_cases h4 : ordE (hdE a) (hdE q) < 0
          · have H4 := Lib.hid h4
            have HD9 := Lib.hid (decide_eq_true h4)
            clear h4
            go_wp2_with (first
              | (go_at_call 63; refine (isAhead_any hC.out.1.1 m1 k a q hC.out.2.2.1 HQM.out).mono ?_; rw [HD9.out]; rintro e w9 ⟨rfl, b7⟩; have H9 : Hid (Hp w0 w9 hb (some ⟨g, 0, none⟩) c T2 ∧ Bes W w9) := Lib.hid ⟨hC.out.1.1.kept b7, hC.out.1.2.trans (Bes.of_below b7)⟩; clear b7)
              | (go_at_call 65; refine (swap_any H9.out.1 m1 k (by have := HL2.out; have := hC.out.2.1; omega) (by have := HL2.out; have := hC.out.2.1; omega)).mono ?_; rintro e w8 ⟨rfl, h8, b8⟩; have H8 : Hid (Hp w0 w8 hb (some ⟨g, 0, none⟩) c (swapL T2 m1 k) ∧ Bes W w8) := Lib.hid ⟨h8, H9.out.2.trans b8⟩; clear h8 b8))
            go_roundw
            case rel => exact ⟨m1, swapL T2 m1 k, by go_num, Lib.hid ⟨H8.out.1, down_step leG_trans hr.out.2.1 hC.out.2.1.1 hC.out.2.1.2.1 hC.out.2.2.1 HQM.out (leG_of H4.out) hC.out.2.2.2, (swapL_perm (by have := HL2.out; have := hC.out.2.1; omega) (by have := HL2.out; have := hC.out.2.1; omega)).trans hr.out.2.2.1, by have := hC.out.2.1; omega, H8.out.2⟩⟩
            case measure => have := hC.out.2.1; simp [intOf]; omega
          · have H4 : Hid (leG q a) := Lib.hid (not_ahead h4)
            have HD9 := Lib.hid (decide_eq_false h4)
            clear h4
            go_wp2_with (go_at_call 63; refine (isAhead_any hC.out.1.1 m1 k a q hC.out.2.2.1 HQM.out).mono ?_; rw [HD9.out]; rintro e w9 ⟨rfl, b7⟩; have H9 : Hid (Hp w0 w9 hb (some ⟨g, 0, none⟩) c T2 ∧ Bes W w9) := Lib.hid ⟨hC.out.1.1.kept b7, hC.out.1.2.trans (Bes.of_below b7)⟩; clear b7)
            go_ret
            exact ⟨s, _, c, T2, by unfold Gl.val; rw [HSN.out]; try rfl, HS0.out, H9.out.1, down_done hr.out.2.1 (down_last HQM.out H4.out hC.out.2.2.2), (List.Perm.cons s hr.out.2.2.1).trans HUP.out, H9.out.2⟩
        · have H3 : Hid (leG b a) := Lib.hid (not_ahead h3)
          have HDD := Lib.hid (decide_eq_false h3)
          clear h3
          go_upto_region 9 with (go_at_call 63; refine (isAhead_any hr.out.1 m1 m0 a b HA.out HB.out).mono ?_; rw [HDD.out]; rintro e w7 ⟨rfl, b7⟩; have H7 : Hid (Hp w0 w7 hb (some ⟨g, 0, none⟩) c T2 ∧ Bes W w7) := Lib.hid ⟨hr.out.1.kept b7, hr.out.2.2.2.2.trans (Bes.of_below b7)⟩; clear b7)
          try rw [z1]
          clear z1
          have hC : Hid ((Hp w0 w7 hb (some ⟨g, 0, none⟩) c T2 ∧ Bes W w7) ∧ (0 < m0 ∧ (m0 - 1) / 2 = k ∧ m0 < n ∧ k < m0) ∧ T2[m0]? = some b ∧ ∀ i s', 0 < i → (i - 1) / 2 = k → T2[i]? = some s' → leG b s') := Lib.hid ⟨H7.out, ⟨PAR.out.1.1, PAR.out.1.2.1, H1.out, PAR.out.1.2.2⟩, HB.out, kids_two KID.out HB.out HA.out (leG_refl _) H3.out⟩
          have hqm := List.getElem?_eq_getElem (l := T2) (i := k) (by have := HL2.out; have := hC.out.2.1; omega)
          generalize T2[k]'(by have := HL2.out; have := hC.out.2.1; omega) = q at hqm
          have HQM := Lib.hid hqm
          clear hqm
          by_cases h4 : ordE (hdE b) (hdE q) < 0
          · have H4 := Lib.hid h4
            have HD9 := Lib.hid (decide_eq_true h4)
            clear h4
            go_wp2_with (first
              | (go_at_call 63; refine (isAhead_any hC.out.1.1 m0 k b q hC.out.2.2.1 HQM.out).mono ?_; rw [HD9.out]; rintro e w9 ⟨rfl, b7⟩; have H9 : Hid (Hp w0 w9 hb (some ⟨g, 0, none⟩) c T2 ∧ Bes W w9) := Lib.hid ⟨hC.out.1.1.kept b7, hC.out.1.2.trans (Bes.of_below b7)⟩; clear b7)
              | (go_at_call 65; refine (swap_any H9.out.1 m0 k (by have := HL2.out; have := hC.out.2.1; omega) (by have := HL2.out; have := hC.out.2.1; omega)).mono ?_; rintro e w8 ⟨rfl, h8, b8⟩; have H8 : Hid (Hp w0 w8 hb (some ⟨g, 0, none⟩) c (swapL T2 m0 k) ∧ Bes W w8) := Lib.hid ⟨h8, H9.out.2.trans b8⟩; clear h8 b8))
            go_roundw
            case rel => exact ⟨m0, swapL T2 m0 k, by go_num, Lib.hid ⟨H8.out.1, down_step leG_trans hr.out.2.1 hC.out.2.1.1 hC.out.2.1.2.1 hC.out.2.2.1 HQM.out (leG_of H4.out) hC.out.2.2.2, (swapL_perm (by have := HL2.out; have := hC.out.2.1; omega) (by have := HL2.out; have := hC.out.2.1; omega)).trans hr.out.2.2.1, by have := hC.out.2.1; omega, H8.out.2⟩⟩
            case measure => have := hC.out.2.1; simp [intOf]; omega
          · have H4 : Hid (leG q b) := Lib.hid (not_ahead h4)
            have HD9 := Lib.hid (decide_eq_false h4)
            clear h4
            go_wp2_with (go_at_call 63; refine (isAhead_any hC.out.1.1 m0 k b q hC.out.2.2.1 HQM.out).mono ?_; rw [HD9.out]; rintro e w9 ⟨rfl, b7⟩; have H9 : Hid (Hp w0 w9 hb (some ⟨g, 0, none⟩) c T2 ∧ Bes W w9) := Lib.hid ⟨hC.out.1.1.kept b7, hC.out.1.2.trans (Bes.of_below b7)⟩; clear b7)
            go_ret
            exact ⟨s, _, c, T2, by unfold Gl.val; rw [HSN.out]; try rfl, HS0.out, H9.out.1, down_done hr.out.2.1 (down_last HQM.out H4.out hC.out.2.2.2), (List.Perm.cons s hr.out.2.2.1).trans HUP.out, H9.out.2⟩
      · have y1 : decide ((m1 : Int) < n) = false := decide_eq_false (by omega)
        have y2 : decide (m1 < n) = false := decide_eq_false h2
        have H2 := Lib.hid h2
        clear h2
        go_upto_region 9 with fail
        try rw [z1]
        clear z1
        have hC : Hid ((Hp w0 w' hb (some ⟨g, 0, none⟩) c T2 ∧ Bes W w') ∧ (0 < m0 ∧ (m0 - 1) / 2 = k ∧ m0 < n ∧ k < m0) ∧ T2[m0]? = some b ∧ ∀ i s', 0 < i → (i - 1) / 2 = k → T2[i]? = some s' → leG b s') := Lib.hid ⟨⟨hr.out.1, hr.out.2.2.2.2⟩, ⟨PAR.out.1.1, PAR.out.1.2.1, H1.out, PAR.out.1.2.2⟩, HB.out, kids_one KID.out HB.out (by have := HL2.out; have := H2.out; omega)⟩
        have hqm := List.getElem?_eq_getElem (l := T2) (i := k) (by have := HL2.out; have := hC.out.2.1; omega)
        generalize T2[k]'(by have := HL2.out; have := hC.out.2.1; omega) = q at hqm
        have HQM := Lib.hid hqm
        clear hqm
        by_cases h4 : ordE (hdE b) (hdE q) < 0
        · have H4 := Lib.hid h4
          have HD9 := Lib.hid (decide_eq_true h4)
          clear h4
          go_wp2_with (first
            | (go_at_call 63; refine (isAhead_any hC.out.1.1 m0 k b q hC.out.2.2.1 HQM.out).mono ?_; rw [HD9.out]; rintro e w9 ⟨rfl, b7⟩; have H9 : Hid (Hp w0 w9 hb (some ⟨g, 0, none⟩) c T2 ∧ Bes W w9) := Lib.hid ⟨hC.out.1.1.kept b7, hC.out.1.2.trans (Bes.of_below b7)⟩; clear b7)
            | (go_at_call 65; refine (swap_any H9.out.1 m0 k (by have := HL2.out; have := hC.out.2.1; omega) (by have := HL2.out; have := hC.out.2.1; omega)).mono ?_; rintro e w8 ⟨rfl, h8, b8⟩; have H8 : Hid (Hp w0 w8 hb (some ⟨g, 0, none⟩) c (swapL T2 m0 k) ∧ Bes W w8) := Lib.hid ⟨h8, H9.out.2.trans b8⟩; clear h8 b8))
          go_roundw
          case rel => exact ⟨m0, swapL T2 m0 k, by go_num, Lib.hid ⟨H8.out.1, down_step leG_trans hr.out.2.1 hC.out.2.1.1 hC.out.2.1.2.1 hC.out.2.2.1 HQM.out (leG_of H4.out) hC.out.2.2.2, (swapL_perm (by have := HL2.out; have := hC.out.2.1; omega) (by have := HL2.out; have := hC.out.2.1; omega)).trans hr.out.2.2.1, by have := hC.out.2.1; omega, H8.out.2⟩⟩
          case measure => have := hC.out.2.1; simp [intOf]; omega
        · have H4 : Hid (leG q b) := Lib.hid (not_ahead h4)
          have HD9 := Lib.hid (decide_eq_false h4)
          clear h4
          go_wp2_with (go_at_call 63; refine (isAhead_any hC.out.1.1 m0 k b q hC.out.2.2.1 HQM.out).mono ?_; rw [HD9.out]; rintro e w9 ⟨rfl, b7⟩; have H9 : Hid (Hp w0 w9 hb (some ⟨g, 0, none⟩) c T2 ∧ Bes W w9) := Lib.hid ⟨hC.out.1.1.kept b7, hC.out.1.2.trans (Bes.of_below b7)⟩; clear b7)
          go_ret
          exact ⟨s, _, c, T2, by unfold Gl.val; rw [HSN.out]; try rfl, HS0.out, H9.out.1, down_done hr.out.2.1 (down_last HQM.out H4.out hC.out.2.2.2), (List.Perm.cons s hr.out.2.2.1).trans HUP.out, H9.out.2⟩
    · have z0 : decide ((m0 : Int) < n) = false := decide_eq_false (by omega)
      have z00 : decide (m0 < n) = false := decide_eq_false h1
      have H1 := Lib.hid h1
      clear h1 hm0
      go_wp2_with (go_at_call 66; refine (child_any k _ HK9.out).mono ?_; rw [HM0.out]; rintro e w' ⟨rfl, hw'⟩; subst hw')
      go_ret
      exact ⟨s, _, c, T2, by unfold Gl.val; rw [HSN.out]; try rfl, HS0.out, hr.out.1, down_done hr.out.2.1 (fun i s' p h0 hi hs _ => by
        have := (List.getElem?_eq_some_iff.1 hs).1
        have := HL2.out
        have := HM0.out
        have := H1.out
        omega), (List.Perm.cons s hr.out.2.2.1).trans HUP.out, hr.out.2.2.2.2⟩
end Go.Proofs.Ytkodhlaojlgejaa
namespace Go.Proofs.Ytkodhlaojlgejaa
/-- No two at one place. -/
def Apt (F : List Er) : Prop := F.Pairwise (fun x y => ordE x y ≠ 0)
theorem apt_perm {F G : List Er} (h : F.Perm G) : Apt F ↔ Apt G := List.Perm.pairwise_iff (fun {x y} e => by have := ordE_flip x y; omega) h
theorem ordL_apt {L : List Er} (h : OrdL L) : Apt L := (OrdL.pw.1 h).2.imp (fun h => by omega)
structure InvM (F M : List Er) (T : List (List Er)) : Prop where
  perm : (M ++ T.flatten).Perm F
  ords : ∀ l ∈ T, OrdL l
  strict : OrdL M
  le : ∀ x ∈ M, ∀ l ∈ T, ∀ y ∈ l, leE x y
theorem InvM.turn {F M : List Er} {T U : List (List Er)} (h : InvM F M T) (hp : U.Perm T) : InvM F M U :=
  ⟨((List.Perm.append_left M hp.flatten)).trans h.perm, fun l hl => h.ords l (hp.mem_iff.1 hl), h.strict, fun x hx l hl => h.le x hx l (hp.mem_iff.1 hl)⟩
theorem InvM.none {F M : List Er} {T : List (List Er)} (h : InvM F M ([] :: T)) : InvM F M T :=
  ⟨by have := h.perm; rwa [List.flatten_cons, List.nil_append] at this, fun l hl => h.ords l (List.mem_cons_of_mem _ hl), h.strict, fun x hx l hl => h.le x hx l (List.mem_cons_of_mem _ hl)⟩
theorem ordL_head {x y : Er} {r : List Er} (h : OrdL (x :: r)) (hy : y ∈ x :: r) : leE x y := by
  rcases List.mem_cons.1 hy with e | e
  · rw [e]; exact leE_refl _
  · have := (List.pairwise_cons.1 (OrdL.pw.1 h).2).1 y e
    unfold leE
    omega
theorem InvM.step {F M : List Er} {x : Er} {r : List Er} {T : List (List Er)} (h : InvM F M ((x :: r) :: T)) (hmin : ∀ l ∈ T, ∀ y, l.head? = some y → leE x y) (hlast : ∀ e, M.getLast? = some e → ordE e x ≠ 0) : InvM F (M ++ [x]) (r :: T) := by
  have ho := h.ords _ (List.mem_cons_self ..)
  refine ⟨?_, fun l hl => ?_, ?_, fun z hz l hl y hy => ?_⟩
  · have := h.perm
    simpa [List.append_assoc] using this
  · rcases List.mem_cons.1 hl with e | e
    · rw [e]; exact OrdL.tail ho
    · exact h.ords l (List.mem_cons_of_mem _ e)
  · refine h.strict.snoc (ho.good x (List.mem_cons_self ..)) (fun e he => ?_)
    have h1 := h.le e (List.mem_of_getLast? he) _ (List.mem_cons_self ..) x (List.mem_cons_self ..)
    have h2 := hlast e he
    unfold leE at h1
    omega
  · have hxy : leE x y := by
      rcases List.mem_cons.1 hl with e | e
      · subst e
        exact ordL_head ho (List.mem_cons_of_mem _ hy)
      · have ho2 := h.ords l (List.mem_cons_of_mem _ e)
        cases l with
        | nil => cases hy
        | cons q l => exact leE_trans _ _ _ (hmin _ e q rfl) (ordL_head ho2 hy)
    rcases List.mem_append.1 hz with e | e
    · exact leE_trans _ _ _ (h.le z e _ (List.mem_cons_self ..) x (List.mem_cons_self ..)) hxy
    · rw [List.mem_singleton.1 e]; exact hxy
theorem InvM.dup {F M : List Er} {x e : Er} {r : List Er} {T : List (List Er)} (h : InvM F M ((x :: r) :: T)) (he : M.getLast? = some e) (h0 : ordE e x = 0) : ¬ Apt F := fun ha => by
  have h1 := (apt_perm h.perm).2 ha
  obtain ⟨-, -, h2⟩ := List.pairwise_append.1 h1
  exact h2 e (List.mem_of_getLast? he) x (by simp) h0
theorem InvM.done {F M : List Er} (h : InvM F M []) : OrdL M ∧ M.Perm F := ⟨h.strict, by simpa using h.perm⟩
/-- Two lists in order, of the same entries, are one. -/
theorem sorted_one : ∀ {L M : List Er}, List.Pairwise (fun x y => ordE x y < 0) L → List.Pairwise leE M → L.Perm M → L = M
  | [], M, _, _, h => by simpa using h.symm.eq_nil.symm
  | x :: L, [], _, _, h => by simp at h
  | x :: L, y :: M, h1, h2, h => by
    obtain ⟨h3, h4⟩ := List.pairwise_cons.1 h1
    obtain ⟨h5, h6⟩ := List.pairwise_cons.1 h2
    have hxy : x = y := by
      have hx : x ∈ y :: M := h.mem_iff.1 (List.mem_cons_self ..)
      have hy : y ∈ x :: L := h.mem_iff.2 (List.mem_cons_self ..)
      rcases List.mem_cons.1 hy with e | e
      · exact e.symm
      · rcases List.mem_cons.1 hx with e' | e'
        · exact e'
        · have a1 := h3 y e
          have a2 := h5 x e'
          unfold leE at a2
          have := ordE_flip x y
          omega
    subst hxy
    rw [sorted_one h4 h6 (List.Perm.cons_inv h)]
end Go.Proofs.Ytkodhlaojlgejaa
