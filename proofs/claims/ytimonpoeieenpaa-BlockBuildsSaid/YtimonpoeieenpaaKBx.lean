/-
  Walks: a key looked for, by the program: the loop.
-/
import Derived.Test.YtimonpoeieenpaaKBw
namespace Go.Proofs.Ytimonpoeieenpaa
open Go.RowKit Go.Shelf
attribute [local go_sem] Oper.semAt_some

theorem stf_start (w : World) (A C : Option Addr) (n c m d : Nat) (K : List Int) : StF w.heap.size w A n c C m d K ⟨[], 0, none, 0, []⟩ (((((((w.alloc (.cells #[.slice C m d] 24)).alloc (.cells #[.slice none 0 0] 24)).alloc (.cells #[.bool false] 4)).alloc (.cells #[.int .i64 0] 25)).alloc (.cells #[.slice none 0 0] 24)).alloc (.cells #[.bool false] 4)).alloc (.cells #[.slice A n c] 24)) := by
  have b0 := Boxed.new w 24 (.slice C m d)
  have b1 := Boxed.new (w.alloc (.cells #[.slice C m d] 24)) 24 (.slice none 0 0)
  have b2 := Boxed.new ((w.alloc (.cells #[.slice C m d] 24)).alloc (.cells #[.slice none 0 0] 24)) 4 (.bool false)
  have b3 := Boxed.new (((w.alloc (.cells #[.slice C m d] 24)).alloc (.cells #[.slice none 0 0] 24)).alloc (.cells #[.bool false] 4)) 25 (.int .i64 0)
  have b4 := Boxed.new ((((w.alloc (.cells #[.slice C m d] 24)).alloc (.cells #[.slice none 0 0] 24)).alloc (.cells #[.bool false] 4)).alloc (.cells #[.int .i64 0] 25)) 24 (.slice none 0 0)
  have b5 := Boxed.new (((((w.alloc (.cells #[.slice C m d] 24)).alloc (.cells #[.slice none 0 0] 24)).alloc (.cells #[.bool false] 4)).alloc (.cells #[.int .i64 0] 25)).alloc (.cells #[.slice none 0 0] 24)) 4 (.bool false)
  have b6 := Boxed.new ((((((w.alloc (.cells #[.slice C m d] 24)).alloc (.cells #[.slice none 0 0] 24)).alloc (.cells #[.bool false] 4)).alloc (.cells #[.int .i64 0] 25)).alloc (.cells #[.slice none 0 0] 24)).alloc (.cells #[.bool false] 4)) 24 (.slice A n c)
  simp only [World.size_alloc] at b1 b2 b3 b4 b5 b6
  exact ⟨below_al (below_al (below_al (below_al (below_al (below_al (below_al (Below.refl _ _) _) _) _) _) _) _) _, (((((b0.alloc _).alloc _).alloc _).alloc _).alloc _).alloc _, ((((b1.alloc _).alloc _).alloc _).alloc _).alloc _, (((b2.alloc _).alloc _).alloc _).alloc _, ((b3.alloc _).alloc _).alloc _, ⟨none, 0, 0, (b4.alloc _).alloc _, ⟨rfl, Nat.le_refl _, by decide, .inl rfl, Byt.nil⟩⟩, b5.alloc _, b6, Row.nil _ _⟩

/-- The loop is done: the results stand. -/
theorem foundP {L K : List Int} {ps : List Pr} (h : readP L = (ps, 0)) : findP L K = (foundV K ps, foundB K ps, 0) := by
  unfold findP foundV foundB
  rw [h, if_neg (by simp)]
  cases seekP K ps <;> rfl

theorem foundV_short {L K : List Int} {ps : List Pr} (hb : Byt L) (h : readP L = (ps, 0)) : (foundV K ps).length ≤ 4096 := by
  unfold foundV
  cases e : seekP K ps with
  | none => exact Nat.zero_le _
  | some p => exact ((readP_form hb h).short.2 p (List.mem_of_find?_eq_some e)).2

theorem found_ends {H z c3 : Nat} {w W w3 : World} {A3 : Option Addr} {V : List Int} {fb : Bool} {p : List Int × Bool × Int} {u1 u2 u3 : Value} (hw : w.heap.size = H) (hl : Below H w W) (hK : W.heap[H + 7]? = some (.deferred (some []))) (b : Below W.heap.size W w3) (r : Row w3 W.heap.size A3 c3 V) (hz : V.length = z) (hB : Byt V) (q1 : Boxed w3 (H + 1) 24 u1) (q2 : Boxed w3 (H + 2) 4 u2) (q3 : Boxed w3 (H + 3) 25 u3) (hp : p = (V, fb, 0)) :
    (((w3.setCell ⟨H + 1, 0, none⟩ (.slice A3 z c3)).setCell ⟨H + 1 + 1, 0, none⟩ (.bool fb)).setCell ⟨H + 1 + 1 + 1, 0, none⟩ (.int .i64 0)).heap[H + 7]? = some (.deferred (some [])) ∧ ((((w3.setCell ⟨H + 1, 0, none⟩ (.slice A3 z c3)).setCell ⟨H + 1 + 1, 0, none⟩ (.bool fb)).setCell ⟨H + 1 + 1 + 1, 0, none⟩ (.int .i64 0)).putObj (H + 7) (.deferred none)).cell? ⟨H + 1, 0, none⟩ = some (.slice A3 z c3) ∧ ((((w3.setCell ⟨H + 1, 0, none⟩ (.slice A3 z c3)).setCell ⟨H + 1 + 1, 0, none⟩ (.bool fb)).setCell ⟨H + 1 + 1 + 1, 0, none⟩ (.int .i64 0)).putObj (H + 7) (.deferred none)).cell? ⟨H + 1 + 1, 0, none⟩ = some (.bool fb) ∧ ((((w3.setCell ⟨H + 1, 0, none⟩ (.slice A3 z c3)).setCell ⟨H + 1 + 1, 0, none⟩ (.bool fb)).setCell ⟨H + 1 + 1 + 1, 0, none⟩ (.int .i64 0)).putObj (H + 7) (.deferred none)).cell? ⟨H + 1 + 1 + 1, 0, none⟩ = some (.int .i64 0) ∧ GotF w p (.returned (.tuple #[.slice A3 z c3, .bool fb, .int .i64 0])) ((((w3.setCell ⟨H + 1, 0, none⟩ (.slice A3 z c3)).setCell ⟨H + 1 + 1, 0, none⟩ (.bool fb)).setCell ⟨H + 1 + 1 + 1, 0, none⟩ (.int .i64 0)).putObj (H + 7) (.deferred none)) := by
  subst hz
  subst hp
  have hlt : H + 7 < W.heap.size := (Array.getElem?_eq_some_iff.1 hK).1
  have hX : ((((w3.setCell ⟨H + 1, 0, none⟩ (.slice A3 V.length c3)).setCell ⟨H + 1 + 1, 0, none⟩ (.bool fb)).setCell ⟨H + 1 + 1 + 1, 0, none⟩ (.int .i64 0))).heap[H + 7]? = some (.deferred (some [])) := by
    rw [Below.heap_setCell _ ⟨H + 1 + 1 + 1, 0, none⟩ _ (H + 7) (by simp only; omega), Below.heap_setCell _ ⟨H + 1 + 1, 0, none⟩ _ (H + 7) (by simp only; omega), Below.heap_setCell _ ⟨H + 1, 0, none⟩ _ (H + 7) (by simp only; omega), b.block _ hlt, hK]
  have x1 := ((q1.set (.slice A3 V.length c3)).other (B' := H + 1 + 1) (by omega) (.bool fb)).other (B' := H + 1 + 1 + 1) (by omega) (.int .i64 0)
  have x2 := ((q2.other (B' := H + 1) (by omega) (.slice A3 V.length c3)).set (.bool fb)).other (B' := H + 1 + 1 + 1) (by omega) (.int .i64 0)
  have x3 := ((q3.other (B' := H + 1) (by omega) (.slice A3 V.length c3)).other (B' := H + 1 + 1) (by omega) (.bool fb)).set (.int .i64 0)
  have xr := own_set (b := H + 1 + 1 + 1) (u := .int .i64 0) (own_set (b := H + 1 + 1) (u := .bool fb) (own_set (b := H + 1) (u := .slice A3 V.length c3) r (by omega)) (by omega)) (by omega)
  have xl := (((hl.trans (b.mono (by omega))).setCell (p := ⟨H + 1, 0, none⟩) (Nat.le_succ _) (.slice A3 V.length c3)).setCell (p := ⟨H + 1 + 1, 0, none⟩) (by simp only; omega) (.bool fb)).setCell (p := ⟨H + 1 + 1 + 1, 0, none⟩) (by simp only; omega) (.int .i64 0)
  obtain ⟨Y, hY⟩ : ∃ Y, (((w3.setCell ⟨H + 1, 0, none⟩ (.slice A3 V.length c3)).setCell ⟨H + 1 + 1, 0, none⟩ (.bool fb)).setCell ⟨H + 1 + 1 + 1, 0, none⟩ (.int .i64 0)) = Y := ⟨_, rfl⟩
  have hg := grownBy_putObj' Y (H + 7) (.deferred none)
  rw [hY] at hX
  have hr : ∀ r, some (H + 7) = some r → H + 7 ≤ r ∧ ∃ o : Obj, Y.heap[r]? = some o ∧ o.isCells = false := fun r e => by injection e with e; subst e; exact ⟨Nat.le_refl _, _, hX, rfl⟩
  have y1 : Boxed Y (H + 1) 24 (.slice A3 V.length c3) := hY ▸ x1
  have y2 : Boxed Y (H + 2) 4 (.bool fb) := hY ▸ x2
  have y3 : Boxed Y (H + 3) 25 (.int .i64 0) := hY ▸ x3
  have yr : Row Y W.heap.size A3 c3 V := hY ▸ xr
  have yl : Below H w Y := hY ▸ xl
  rw [hY]
  clear hY x1 x2 x3 xr xl
  subst hw
  refine ⟨hX, (boxed_abide y1 hg (B := w.heap.size + 7) (by omega) (fun r e => (hr r e).1)).cell, (boxed_abide y2 hg (B := w.heap.size + 7) (by omega) (fun r e => (hr r e).1)).cell, (boxed_abide y3 hg (B := w.heap.size + 7) (by omega) (fun r e => (hr r e).1)).cell, A3, c3, rfl, Row.in_ (own_abide yr hg (fun r e => (hr r e).2)) hB, ?_⟩
  exact yl.grown hg (by have := yl.size; omega) (fun k e => by have := (hr k e).1; omega)

set_option maxRecDepth 100000 in
set_option maxHeartbeats 8000000 in
theorem find_any (A C : Option Addr) (L K : List Int) (n c m d : Nat) (w : World) (h : In w A L n c) (g : In w C K m d) (hn : n ≤ 140737488355328) :
    Calls Try.prog 12 #[.slice A n c, .slice C m d] w (GotF w (findP L K)) := by
  have HI := Lib.hid h
  have HJ := Lib.hid g
  have HNN := Lib.hid hn
  clear h g hn
  refine (callsIn_wide (n := 9)).1 ?_
  refine callsIn_of_wp_marks Try.func12 rfl trivial ?_ rfl
  simp only [Try.ntmps12, List.size_toArray, List.length_cons, List.length_nil, Nat.reduceAdd, Nat.reduceSub, Array.replicate_succ, Array.replicate_zero, List.push_toArray, List.append_toArray, List.nil_append, List.cons_append]
  gi_wp2_with (refine ⟨trivial, ?_⟩; gi_at_call 25; refine (callsIn_wide.2 (pairsOf_any _ _ _ _)).mono ?_; rintro e w' ⟨rfl, rfl⟩)
  obtain ⟨W0, hW0⟩ : ∃ W0, (((((((w.alloc (.cells #[.slice C m d] 24)).alloc (.cells #[.slice none 0 0] 24)).alloc (.cells #[.bool false] 4)).alloc (.cells #[.int .i64 0] 25)).alloc (.cells #[.slice none 0 0] 24)).alloc (.cells #[.bool false] 4)).alloc (.cells #[.slice A n c] 24)) = W0 := ⟨_, rfl⟩
  have ST := stf_start w A C n c m d K
  have hs4 : W0.heap.size = w.heap.size + 7 := by rw [← hW0]; simp only [World.size_alloc]
  rw [hW0] at ST ⊢
  obtain ⟨H, hH⟩ : ∃ H, w.heap.size = H := ⟨_, rfl⟩
  rw [hH] at ST hs4 ⊢
  have HOST := Lib.hid (hostF (C := C) (m := m) (d := d) (K := K) HI.out hH)
  refine range_told (σ := Ks) (gf := 33) (lb := #[.pointer (some ⟨H + 6, 0, none⟩)]) rfl (enters_of Try.func33 (by kernel_rfl) rfl)
    (StF H w A n c C m d K) (XF H w)
    (fun s X Y row k hg hr => k.abide hg hH (fun r e => by have := hr r e; rw [hs4] at this; exact this)) (fun s X Y row k hg hr => k.abide hg hH (fun r e => by have := hr r e; rw [hs4] at this; exact this))
    (fun s args s' W => OnK A L n c s args s' W ∧ H + 9 ≤ W.heap.size) (fun s args s' W => OffK s args s' W ∧ H + 9 ≤ W.heap.size) ⟨[], 0, none, 0, []⟩ ST (fun s => readP L = (s.ps, 0)) (fun s => readP L = ([], s.e)) ?size ?on ?off ?iter ?done ?left
  case size =>
    rintro s args s' W (⟨⟨_, V, vA, vc, z, q, _, _, rfl, _⟩, _⟩ | ⟨⟨vA, vc, z, q, er, _, _, rfl⟩, _⟩) <;> rfl
  case iter =>
    intro R R' hR hRg hRs hyes hno W hi hr
    rw [hs4] at hRs hyes hno ⊢
    exact pairs_iter 7 (H + 8) (H + 9) (H + 6) A L n c (StF H w A n c C m d K) (XF H w) R R' HOST.out HNN.out hR hRg hRs (fun s args s' W ho hi hr => hyes s args s' W ⟨ho, hRs W hr⟩ hi hr) (fun s args s' W ho hi hr => hno s args s' W ⟨ho, hRs W hr⟩ hi hr) W hi hr
  case on =>
    rintro ⟨ps, e0, ka, kc, k⟩ args s' W ⟨⟨he0, V, vA, vc, z, q, rfl, hq, rfl, hV, hkb, hps, hq2, hz, hris, hcm, hin⟩, hsz⟩ hst
    unfold RoundOf
    rw [hs4]
    simp only at hq hkb hps hris hcm he0
    gi_wp2
    refine ⟨Two.below ((Below.refl (H + 9) W).alloc hsz _) (by omega), fun W₂ g2 hl => ?_⟩
    have hr2 : ∀ r, some (H + 7 + 1) = some r → H + 7 ≤ r ∧ ∃ o : Obj, (W.alloc (.cells #[.slice ka q kc, .slice vA z vc] 42)).heap[r]? = some o ∧ o.isCells = false := fun r e => by injection e with e; subst e; exact ⟨by omega, hl⟩
    have st2 := Lib.hid ((hst.abide (World.grownBy_alloc W (.cells #[.slice ka q kc, .slice vA z vc] 42) none) hH (fun r e => by cases e)).abide g2 hH hr2)
    have e2 : Hid (W₂.heap[W.heap.size]? = some (.cells #[.slice ka q kc, .slice vA z vc] 42 (0, 0))) := Lib.hid (by
      rw [g2.block _ (by rw [World.size_alloc]; omega) (by intro e; injection e with e; omega)]
      exact heap_alloc_new W _)
    obtain ⟨E, hE⟩ : ∃ E, W.heap.size = E := ⟨_, rfl⟩
    rw [hE] at e2 ⊢
    have d0 : W₂.cell? ⟨E, 0, none⟩ = some (.slice ka q kc) := by simp [World.cell?, e2.out]
    have d1 : W₂.cell? ⟨E, 1, none⟩ = some (.slice vA z vc) := by simp [World.cell?, e2.out]
    have d2 : W₂.cell? ⟨H, 0, none⟩ = some (.slice C m d) := st2.out.kb.cell
    obtain ⟨vA', z', vc', v1, -⟩ := st2.out.val
    have d3 : W₂.cell? ⟨H + 1 + 1 + 1 + 1, 0, none⟩ = some (.slice vA' z' vc') := v1.cell
    have f3 : W₂.frozen? ⟨H + 1 + 1 + 1 + 1, 0, none⟩ = false := v1.frozen
    have d4 : W₂.cell? ⟨H + 1 + 1 + 1 + 1 + 1, 0, none⟩ = some (.bool (foundB K ps)) := st2.out.got.cell
    have f4 : W₂.frozen? ⟨H + 1 + 1 + 1 + 1 + 1, 0, none⟩ = false := st2.out.got.frozen
    have hEH : E ≠ H + 1 + 1 + 1 + 1 := by omega
    have CM : Hid (Calls Try.prog 26 #[.slice ka q kc, .slice C m d] W₂ fun e w' => e = .returned (.bool (decide (k = K))) ∧ w' = W₂) := Lib.hid (equal_any ka C k K q m kc d W₂ (st2.out.key.in_n hkb hq) (HJ.out.kept (by rw [hH]; exact st2.out.low)))
    have HR := Lib.hid (And.intro hris (And.intro hcm (hin w HI.out)))
    clear hst g2 hr2 hl hV hq2 hz hps hq hsz v1 hE hris hcm hin
    by_cases hk : k = K
    · have hkd : decide (k = K) = true := by simpa using hk
      rw [hkd] at CM
      have HK := Lib.hid hk
      clear hk hkd
      gi_wp2_with (refine ⟨trivial, ?_⟩; gi_at_call 26; refine (CallsIn.inRound _ (callsIn_wide.2 CM.out)).mono ?_; rintro e w' ⟨rfl, rfl⟩)
      exact st2.out.hit HR.out.1 HR.out.2.1 HK.out HR.out.2.2
    · have hkd : decide (k = K) = false := by simpa using hk
      rw [hkd] at CM
      have HK := Lib.hid hk
      clear hk hkd
      gi_wp2_with (refine ⟨trivial, ?_⟩; gi_at_call 26; refine (CallsIn.inRound _ (callsIn_wide.2 CM.out)).mono ?_; rintro e w' ⟨rfl, rfl⟩)
      exact ⟨Two.refl _ _, st2.out.miss HK.out⟩
  case off =>
    rintro ⟨ps, e0, ka, kc, k⟩ args s' W ⟨⟨vA, vc, z, q, er, her, rfl, rfl⟩, hsz⟩ hst
    unfold RoundOf
    rw [hs4]
    have he' : (er != 0) = true := by simpa using her
    gi_wp2
    refine ⟨Two.below ((Below.refl (H + 9) W).alloc hsz _) (by omega), fun W₂ g2 hl => ?_⟩
    have hr2 : ∀ r, some (H + 7 + 1) = some r → H + 7 ≤ r ∧ ∃ o : Obj, (W.alloc (.cells #[.slice ka q kc, .slice vA z vc] 42)).heap[r]? = some o ∧ o.isCells = false := fun r e => by injection e with e; subst e; exact ⟨by omega, hl⟩
    have st2 := (hst.abide (World.grownBy_alloc W (.cells #[.slice ka q kc, .slice vA z vc] 42) none) hH (fun r e => by cases e)).abide g2 hH hr2
    have d0 : W₂.cell? ⟨H + 1, 0, none⟩ = some (.slice none 0 0) := st2.r0.cell
    have f0 : W₂.frozen? ⟨H + 1, 0, none⟩ = false := st2.r0.frozen
    have d1 : W₂.cell? ⟨H + 1 + 1, 0, none⟩ = some (.bool false) := st2.r1.cell
    have f1 : W₂.frozen? ⟨H + 1 + 1, 0, none⟩ = false := st2.r1.frozen
    have d2 : W₂.cell? ⟨H + 1 + 1 + 1, 0, none⟩ = some (.int .i64 0) := st2.r2.cell
    have f2 : W₂.frozen? ⟨H + 1 + 1 + 1, 0, none⟩ = false := st2.r2.frozen
    clear hst g2 hr2 hl her
    gi_wp2
    exact st2.left er
  case done =>
    rintro ⟨ps, e0, ka, kc, k⟩ W hd hst hK
    rw [hs4] at hK ⊢
    simp only at hd
    obtain ⟨vA, z, vc, v1, v2⟩ := hst.val
    simp only at v2
    have HS0 : Hid (∀ W' : World, Below W.heap.size W W' → W'.cell? ⟨H + 1 + 1 + 1 + 1, 0, none⟩ = some (.slice vA z vc) ∧ W'.cell? ⟨H + 1 + 1 + 1 + 1 + 1, 0, none⟩ = some (.bool (foundB K ps))) := Lib.hid (fun W' hb => ⟨(boxed_below v1 hb v1.lt).cell, (boxed_below hst.got hb hst.got.lt).cell⟩)
    have HS1 : Hid (∀ W' : World, Below W.heap.size W W' → Boxed W' (H + 1) 24 (.slice none 0 0) ∧ Boxed W' (H + 2) 4 (.bool false) ∧ Boxed W' (H + 3) 25 (.int .i64 0)) := Lib.hid (fun W' hb => ⟨boxed_below hst.r0 hb hst.r0.lt, boxed_below hst.r1 hb hst.r1.lt, boxed_below hst.r2 hb hst.r2.lt⟩)
    have CL := Lib.hid (fun (W' : World) (hb : Below W.heap.size W W') => clone_any vA (foundV K ps) z vc W' v2.len ((v2.kept (by rw [hH]; exact hst.low)).kept hb).bys (Nat.le_trans (foundV_short HI.out.byt hd) (by decide)))
    have HD := Lib.hid (foundP (K := K) hd)
    have HST := Lib.hid hst
    have HKK := Lib.hid hK
    have HVL := Lib.hid v2.len
    have HVB := Lib.hid v2.byt
    clear hst hK hd v1 v2
    obtain ⟨fb, hfb⟩ : ∃ fb, foundB K ps = fb := ⟨_, rfl⟩
    rw [hfb] at HS0
    have HFB := Lib.hid hfb
    clear hfb
    gi_wp2
    refine wpIn_wide.2 ?_
    have s0 := HS0.out W.drew (Below.refl _ _).drew
    have T1 := Lib.hid trivial
    go_region_held3 (fun W' => W'.cell? ⟨H + 1 + 1 + 1 + 1, 0, none⟩ = some (.slice vA z vc) ∧ W'.cell? ⟨H + 1 + 1 + 1 + 1 + 1, 0, none⟩ = some (.bool fb)) (first | exact s0 | exact HS2.out | go_keep) (first
      | (have t1 := T1; go_simp; go_at_call 27; refine (CL.out _ (Below.refl _ _).drew).mono ?_; rintro e3 w3 ⟨A3, c3, rfl, r3, b3⟩; have R3 : Hid (Row w3 W.heap.size A3 c3 (foundV K ps)) := Lib.hid r3; have B3 : Hid (Below W.heap.size W w3) := Lib.hid ((Below.refl _ _).drew.trans b3); have HS2 := Lib.hid (HS0.out w3 B3.out); have x1 := (HS1.out w3 B3.out).1.cell; have x2 := (HS1.out w3 B3.out).1.frozen; have x3 : w3.cell? ⟨H + 1 + 1, 0, none⟩ = some (.bool false) := (HS1.out w3 B3.out).2.1.cell; have x4 : w3.frozen? ⟨H + 1 + 1, 0, none⟩ = false := (HS1.out w3 B3.out).2.1.frozen; have x5 : w3.cell? ⟨H + 1 + 1 + 1, 0, none⟩ = some (.int .i64 0) := (HS1.out w3 B3.out).2.2.cell; have x6 : w3.frozen? ⟨H + 1 + 1 + 1, 0, none⟩ = false := (HS1.out w3 B3.out).2.2.frozen; have y1 := HS2.out.1; have y2 := HS2.out.2; rw [HVL.out]; clear r3 b3 T1 t1))
    obtain ⟨g1, k0, k1, k2, ga⟩ := found_ends (p := findP L K) (fb := fb) hH HST.out.low HKK.out B3.out R3.out HVL.out HVB.out (HS1.out w3 B3.out).1 (HS1.out w3 B3.out).2.1 (HS1.out w3 B3.out).2.2 (by rw [HD.out, HFB.out])
    have HZ := Lib.hid (And.intro g1 (And.intro k0 (And.intro k1 (And.intro k2 ga))))
    clear g1 k0 k1 k2 ga x1 x2 x3 x4 x5 x6 y1 y2
    gi_wp2
    obtain ⟨g1, k0, k1, k2, ga⟩ := HZ.out
    refine ⟨by simp, .inl ⟨_, _, rfl, run_takeDeferred g1, ?_⟩⟩
    refine ⟨_, ?_, ga⟩
    simp [results, Try.f12, go_sem, k0, k1, k2]
  case left =>
    rintro ⟨ps, e0, ka, kc, k⟩ W hd hst hK
    rw [hs4] at hK ⊢
    simp only at hd
    have g := hst.abide (row := some (H + 7)) (grownBy_putObj' W (H + 7) (.deferred none)) hH (fun r e => by injection e with e; subst e; exact ⟨Nat.le_refl _, _, hK, rfl⟩)
    have k0 := g.r0.cell
    have k1 := g.r1.cell
    have k2 := g.r2.cell
    have ga : GotF w (findP L K) (.returned (.tuple #[.slice none 0 0, .bool false, .int .i64 e0])) (W.putObj (H + 7) (.deferred none)) := by
      have e1 : findP L K = ([], false, e0) := by
        by_cases h0 : e0 = 0
        · subst h0
          exact findP_none (by rw [hd]) (by rw [hd]; rfl)
        · have := findP_bad (L := L) (k := K) (by rw [hd]; exact h0)
          rw [this, hd]
      rw [e1]
      exact gotF_none ⟨rfl, hH ▸ g.low⟩
    clear hd
    gi_wp2
    refine ⟨by simp, .inl ⟨_, _, rfl, run_takeDeferred hK, ?_⟩⟩
    refine ⟨_, ?_, ga⟩
    simp [results, Try.f12, go_sem, k0, k1, k2]

end Go.Proofs.Ytimonpoeieenpaa
