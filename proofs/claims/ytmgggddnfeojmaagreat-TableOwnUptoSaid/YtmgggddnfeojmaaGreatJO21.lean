/-
  All that a table tells of a range: a round's end. Walks: all that a table tells of a range, by the law. Plain: how long a table's file is at most. Nothing of the program. Memory: files as they lie, three cells each (out of layer 7). Walks: the program's disk: Dump.
-/
import Derived.Laws.Strings
import Derived.Test.YtmgggddnfeojmaaGreatJO09
import Derived.Test.YtmgggddnfeojmaaGreatJO20
set_option linter.unusedSimpArgs false
set_option linter.unusedVariables false
namespace Go.Proofs.YtmgggddnfeojmaaGreat
open Go.RowKit
/-- An append of one entry: where its answer lies. -/
theorem erow_placed (w : World) (ty : TypeId) (B : Nat) (A : Option Addr) (c : Nat) (T : List En) (y : En) (C : Option Addr) (cm : Nat) (h : Erow w B A c T) (hm : Lies w C (evals [y])) (hB : B ≤ w.heap.size) (hr : (T.length + 1) * 64 ≤ 140737488355328) :
    ∃ A' c' w', (Builtin.append_ #[22, 22] ty #[.slice A T.length c, .slice C 1 cm]).run Tryz.prog w = .ok (.slice A' (T.length + 1) c') w' ∧ Erow w' B A' c' (T ++ [y]) ∧ Below B w w' ∧ w.grownBy w' (Value.slice A T.length c).ownBlock ∧ ∀ ad, A' = some ad → (∃ a0, A = some a0 ∧ ad.block = a0.block) ∨ w.heap.size ≤ ad.block := by
  obtain ⟨i, hi, hz0, hz1, hz2⟩ := info_parts info48
  obtain ⟨A', c', w', r, h2, h3, h4⟩ := run_append_erow w ty B A c T [y] C cm h hm hB hr
  refine ⟨A', c', w', r, h2, h3, h4, fun ad ha => ?_⟩
  obtain ⟨cd, rfl, hc⟩ := hm.resolve_left (by simp [evals, En.cells])
  rcases h.2 with ⟨hv, h0⟩ | ⟨g, cap, cur, hv, hbg, hg, hnc, hcm, hcs, htake⟩
  · injection hv with e1 e2 e3
    subst e1
    subst e3
    have hr := run_append_nil (P := Tryz.prog) w 22 ty 48 i (.agg #[.slice none 0 0, .int .i64 0, .bool false, .slice none 0 0]) Tryz.underlying22 hi hz0 cd 1 cm (evals [y]) (by rw [hz1]; rfl) hc (by decide) (by decide) (by rw [hz2]; decide)
    rw [e2] at r
    simp only [List.length_singleton] at r
    rw [hr] at r
    injection r with r1 r2
    injection r1 with r1
    rw [ha] at r1
    injection r1 with r1
    rw [← r1]
    exact .inr (Nat.le_refl _)
  · injection hv with e1 e2 e3
    subst e1
    subst e3
    by_cases hroom : T.length + 1 ≤ c
    · obtain ⟨w2, hr, -, -⟩ := run_append_own_spare (P := Tryz.prog) w B 22 ty 48 i 4 Tryz.underlying22 hi hz1 g T.length c (evals T) h cd 1 cm (evals [y]) rfl hc evals_one hroom
      simp only [List.length_singleton] at r
      rw [hr] at r
      injection r with r1 r2
      injection r1 with r1
      rw [ha] at r1
      injection r1 with r1
      exact .inl ⟨_, rfl, by rw [← r1]⟩
    · have hr := run_append_grow (P := Tryz.prog) w 22 ty 48 i (.agg #[.slice none 0 0, .int .i64 0, .bool false, .slice none 0 0]) Tryz.underlying22 hi hz0 ⟨g, 0, none⟩ T.length c (evals T) (by rw [hz1, evals_len]) (fun j u hu => World.ownsRow.cells h (g := g) rfl j u hu) cd 1 cm (evals [y]) (by rw [hz1]; rfl) hc (by omega) (by omega) (by rw [hz2]; exact growslice_fits (by omega) (by omega))
      simp only [List.length_singleton] at r
      rw [hr] at r
      injection r with r1 r2
      injection r1 with r1
      rw [ha] at r1
      injection r1 with r1
      rw [← r1]
      exact .inr (Nat.le_refl _)
theorem wpListIn_append_one {F : Fence} {nn : Nat} (w : World) {ops : Array Oper} {rest : List Oper} {o : Oper} {a : Act} {Q : Exit → Act → World → Prop} (hgd : o.guard = none) (s x : Operand)
    (ho : o.op = .call { callee := .builtin .append, args := #[s, x], argTypes := #[22, 22] })
    (B : Nat) (A : Option Addr) (c : Nat) (T : List En) (y : En) (C : Option Addr) (n cm : Nat) (hs : a.eval s = .slice A n c) (hx : a.eval x = .slice C 1 cm) (en : T.length = n) (h : Erow w B A c T) (hm : Lies w C (evals [y])) (hB : B ≤ w.heap.size) (hr : (T.length + 1) * 64 ≤ 140737488355328)
    (k : ∀ A' c' w', Erow w' B A' c' (T ++ [y]) → Below B w w' → w.grownBy w' (Value.slice A n c).ownBlock → (∀ ad, A' = some ad → (∃ a0, A = some a0 ∧ ad.block = a0.block) ∨ w.heap.size ≤ ad.block) → wpListIn F nn Tryz.prog ops Q rest (a.put o.dst (.slice A' (n + 1) c')) w') : wpListIn F nn Tryz.prog ops Q (o :: rest) a w := by
  subst en
  refine wpListIn_plain hgd fun K hK => ?_
  obtain ⟨A', c', w', r, h2, h3, h4, h5⟩ := erow_placed w o.type B A c T y C cm h hm hB hr
  have k' := k A' c' w' h2 h3 h4 h5
  unfold Oper.wpIn
  refine ⟨?_, ?_⟩
  · simp [Oper.about, ho, resolve, Target.leads, Sem.run_pure]
  · rw [Oper.semAt_plain F _ _ (by rw [ho]; intro c hc'; cases hc')]
    unfold execOp
    simp only [ho, resolve, invoke, builtin, Sem.run_bind, Sem.run_pure, Result.andThen_ok, List.map_toArray, List.map_cons, List.map_nil, hs, hx, r]
    exact hK _ _ k'
section
variable {H L mb j : Nat} {w3 W W₂ W3 : World} {M : List Er}
/-- A round's beginning. -/
theorem KA.round {o : Obj} (h : KA H L mb w3 M j W) (hH : H + 3 ≤ L) (hm : mb < H) (hz : L + 2 ≤ W.heap.size) (g2 : (W.alloc o).grownBy W₂ (some (L + 1))) (hl : ∃ o' : Obj, (W.alloc o).heap[L + 1]? = some o' ∧ o'.isCells = false) :
    KA H L mb w3 M j W₂ ∧ Fr (OutCl H L) W W₂ ∧ L + 2 ≤ W₂.heap.size ∧ W₂.heap[W.heap.size]? = some o := by
  obtain ⟨k1, c1⟩ := h.grow (by omega) hH hm (World.grownBy_alloc W o none) (fun r e => by cases e)
  have hs1 := World.size_alloc W o
  obtain ⟨k2, c2⟩ := k1.grow (by omega) hH hm g2 (fun r e => by injection e with e; subst e; exact ⟨by omega, hl⟩)
  have hs := g2.size
  exact ⟨k2, (fr_own (Fr.refl _ _) (World.grownBy_alloc W o none) (fun r e => by cases e) c1).trans (fr_row g2 (fun r e => by injection e with e; omega) c2), by omega, grown_obj (heap_alloc_new W o) g2 (fun e => by injection e with e; omega)⟩
/-- A round's end: one more. -/
theorem ia_next {V : World} {y : En} {A A2 : Option Addr} {c c2 : Nat} {l : List En} {o : Obj} (hH : H + 3 ≤ L) (hm : mb < H) (hk : KA H L mb w3 M j W₂) (ho : OutAt H (L + 2) W₂ A c j l) (hl : ers l = M.take j) (hz : L + 2 ≤ W₂.heap.size)
    (hf : Fr (OutCl H L) V W₂) (hV : L + 2 ≤ V.heap.size) (hVW : V.heap.size ≤ W₂.heap.size) (hy : M[j]? = some y.rd) (r1 : Row W₂ V.heap.size y.k.a y.k.c y.k.l) (r2 : Row W₂ V.heap.size y.v.a y.v.c y.v.l)
    (r3 : Erow W3 (L + 2) A2 c2 (l ++ [y])) (b3 : Below (L + 2) (W₂.alloc o) W3) (g3 : (W₂.alloc o).grownBy W3 (Value.slice A j c).ownBlock) (p3 : ∀ ad, A2 = some ad → (∃ a0, A = some a0 ∧ ad.block = a0.block) ∨ (W₂.alloc o).heap.size ≤ ad.block) :
    Two L W₂ (W3.setCell ⟨H + 1 + 1, 0, none⟩ (.slice A2 (j + 1) c2)) ∧ IA H L mb w3 M (j + 1, V) (W3.setCell ⟨H + 1 + 1, 0, none⟩ (.slice A2 (j + 1) c2)) := by
  obtain ⟨o1, o2, o3, o4⟩ := ho
  have hs1 := World.size_alloc W₂ o
  have e0 := o3.alloc o
  have hlow : ∀ g, g < L + 2 → g ≠ H + 2 → (W3.setCell ⟨H + 1 + 1, 0, none⟩ (.slice A2 (j + 1) c2)).heap[g]? = W₂.heap[g]? := fun g hg hn => by
    rw [heap_setCell_other _ _ _ _ (by simp only; omega), b3.block g hg, RowKit.Below.heap_alloc _ _ _ (by omega)]
  have hbox : (W3.setCell ⟨H + 1 + 1, 0, none⟩ (.slice A2 (j + 1) c2)).heap[H + 2]? = some (.cells #[.slice A2 (j + 1) c2] 22 (0, 0)) := by
    have h1 : W3.heap[H + 2]? = some (.cells #[.slice A j c] 22 (0, 0)) := by
      rw [b3.block _ (by omega), RowKit.Below.heap_alloc _ _ _ (by omega)]
      exact o1
    exact heap_setCell_same W3 (H + 2) 0 _ _ _ h1
  have r3' : Erow (W3.setCell ⟨H + 1 + 1, 0, none⟩ (.slice A2 (j + 1) c2)) (L + 2) A2 c2 (l ++ [y]) := own_set r3 (by omega)
  have e0' : Erow (W₂.alloc o) (L + 2) A c l := e0
  have g3' : (W₂.alloc o).grownBy W3 (Value.slice A l.length c).ownBlock := by rw [o2]; exact g3
  have hq : ∀ {B : Nat} {a : Option Addr} {d : Nat} {X : List Int}, L + 2 ≤ B → Row W₂ B a d X → Row (W3.setCell ⟨H + 1 + 1, 0, none⟩ (.slice A2 (j + 1) c2)) (L + 2) a d X := fun hB r =>
    own_set (Row.besideE (Row.mono (r.kept (below_new W₂ o) (Nat.le_refl _)) hB) e0' g3') (by omega)
  have m3 : EMades (W3.setCell ⟨H + 1 + 1, 0, none⟩ (.slice A2 (j + 1) c2)) (L + 2) (l ++ [y]) := EMades.snoc (fun q hm => ⟨hq (Nat.le_refl _) (o4 q hm).1, hq (Nat.le_refl _) (o4 q hm).2⟩) (hq hV r1) (hq hV r2)
  have ho' : OutAt H (L + 2) (W3.setCell ⟨H + 1 + 1, 0, none⟩ (.slice A2 (j + 1) c2)) A2 c2 (j + 1) (l ++ [y]) := ⟨hbox, by rw [List.length_append, o2]; rfl, r3', m3⟩
  have hsz : W₂.heap.size ≤ (W3.setCell ⟨H + 1 + 1, 0, none⟩ (.slice A2 (j + 1) c2)).heap.size := by
    have := g3.size
    simp only [World.size_setCell]
    omega
  refine ⟨⟨hlow L (by omega) (by omega), hlow (L + 1) (by omega) (by omega)⟩, ⟨?_, (hlow _ (by omega) (by omega)).trans hk.r0, (hlow _ (by omega) (by omega)).trans hk.r1, l ++ [y], A2, c2, ho', ?_⟩, ?_⟩
  · exact kp_step hk.kp (g3.os.trans rfl) (g3.tape.trans rfl) (g3.output.trans rfl) hsz (fun g hg => hlow g (by omega) (by omega))
  · rw [ers_append, hl, List.take_add_one, hy]
    rfl
  · intro g x hg hn
    have hgV : g < V.heap.size := (Array.getElem?_eq_some_iff.1 hg).1
    obtain ⟨k1, k2⟩ := hf g x hg hn
    have ho2 : OutAt H (L + 2) W₂ A c j l := ⟨o1, o2, o3, o4⟩
    rw [ho2.cl] at k2
    have hg2 := (Array.getElem?_eq_some_iff.1 k1).1
    refine ⟨?_, fun q => ?_⟩
    · rw [heap_setCell_other _ _ _ _ (by simp only; omega)]
      have k3 : (W₂.alloc o).heap[g]? = some x := by rw [RowKit.Below.heap_alloc _ _ _ hg2]; exact k1
      exact grown_obj k3 g3 (fun e => by
        rcases o3.2 with ⟨hn', _⟩ | ⟨b, cap, cur, e1, _⟩
        · injection hn' with hn'
          rw [hn'] at e
          simp [Value.ownBlock] at e
        · injection e1 with e1
          rw [e1] at e
          have : g = b := by simpa [Value.ownBlock] using e
          exact k2 (.inr (.inr (.inr (.inl ⟨⟨b, 0, none⟩, e1, this⟩)))))
    · rw [ho'.cl] at q
      rcases q with q | q | q | ⟨v, e1, e2⟩ | ⟨z, hz, q⟩
      · exact k2 (.inl q)
      · exact k2 (.inr (.inl q))
      · exact k2 (.inr (.inr (.inl q)))
      · rcases p3 v e1 with ⟨a0, e3, e4⟩ | e3
        · exact k2 (.inr (.inr (.inr (.inl ⟨a0, e3, by rw [e2, e4]⟩))))
        · omega
      · rcases List.mem_append.1 hz with hz | hz
        · exact k2 (.inr (.inr (.inr (.inr ⟨z, hz, q⟩))))
        · rw [List.mem_singleton] at hz
          subst hz
          rcases q with ⟨v, e1, e2⟩ | ⟨v, e1, e2⟩
          · have := (own_in r1 v e1).1; omega
          · have := (own_in r2 v e1).1; omega
end
end Go.Proofs.YtmgggddnfeojmaaGreat
namespace Go.Proofs.YtmgggddnfeojmaaGreat
open Go.RowKit Go.Shelf
attribute [local go_sem] Oper.semAt_some
/-- What the law gets of a range. -/
def AllE (t : Tm) (lo hi : List Int) (w : World) (e : Ending) (w' : World) : Prop := ∃ (l : List En) (A : Option Addr) (c : Nat), ers l = (rangeP t.tb lo hi).1 ∧ e = .returned (.tuple #[.slice A l.length c, .int .i64 (if (rangeP t.tb lo hi).2 then 11 else 0)]) ∧ Erow w' w.heap.size A c l ∧ EMades w' w.heap.size l ∧ Tw t.mb w w' ∧ TabW (fun g => SlB A g ∨ EnB l g) w' t
theorem out_end {H L j : Nat} {w w3 W W5 : World} {t : Tm} {A : Option Addr} {c : Nat} {l : List En} (hw : w.heap.size = H) (hH : H + 3 ≤ L) (hm : t.mb < H) (hT3 : Tw t.mb w w3)
    (hkp : Kp (fun g => g < L ∧ g ≠ t.mb ∧ ¬ (H ≤ g ∧ g < H + 3)) w3 W) (ho : OutAt H (L + 2) W A c j l) (hT : TabW (OutCl H L W) W t)
    (k5 : Kp (fun g => g ≠ H ∧ g ≠ H + 1 ∧ g ≠ L) W W5) (hc : ∀ g o, W.heap[g]? = some o → (g ≠ H ∧ g ≠ H + 1 ∧ g ≠ L) → W5.heap[g]? = some o) :
    Erow W5 H A c l ∧ EMades W5 H l ∧ Tw t.mb w W5 ∧ TabW (fun g => SlB A g ∨ EnB l g) W5 t := by
  have h5 := ho.of (W' := W5) (k5.block (H + 2) ⟨by omega, by omega, by omega⟩) (fun g o g1 g2 _ => hc g o g2 ⟨by omega, by omega, by omega⟩)
  have hno : ¬ OutCl H L W t.mb := by
    rw [ho.cl]
    have := ho.low
    rintro (k | k | k | k | k)
    · omega
    · omega
    · omega
    · have := (this.1 _ k).1; omega
    · have := (this.2 _ k).1; omega
  obtain ⟨-, o2, o3, o4⟩ := h5
  refine ⟨own_mono o3 (by omega), o4.mono (by omega), ?_, ?_⟩
  · refine ⟨k5.os.trans (hkp.os.trans hT3.os), k5.tape.trans (hkp.tape.trans hT3.tape), k5.output.trans (hkp.output.trans hT3.output), Nat.le_trans hT3.size (Nat.le_trans hkp.size k5.size), fun g hg => ?_⟩
    exact (k5.block g ⟨by omega, by omega, by omega⟩).trans ((hkp.block g ⟨by omega, hg.2, by omega⟩).trans (hT3.block g hg))
  · refine hT.turn (fun g o hg hn => ⟨hc g o hg ?_, fun q => hn ?_⟩) hno
    · rw [ho.cl] at hn
      exact ⟨fun e => hn (.inl (by omega)), fun e => hn (.inl (by omega)), fun e => hn (.inr (.inl e))⟩
    · rw [ho.cl]
      exact .inr (.inr (.inr q))
set_option maxRecDepth 100000 in
set_option maxHeartbeats 8000000 in
theorem all_any (t : Tm) (la ha : Option Addr) (Lo Hi : List Int) (n m c d : Nat) (w : World) (h : TabAt w t) (hl : In w la Lo n c) (hh : In w ha Hi m d) (hn9 : n ≤ 140737488355328) (hm9 : m ≤ 140737488355328) (hrl : t.R.length ≤ 2305843009213693952) (hML : ((rangeP t.tb Lo Hi).1.length + 1) * 64 ≤ 140737488355328) :
    Calls Tryz.prog 18 #[.pointer (some ⟨t.b, 0, none⟩), .slice la n c, .slice ha m d] w (AllE t Lo Hi w) := by
  have HH := Lib.hid h
  have HRL := Lib.hid hrl
  have HML := Lib.hid hML
  have HBY := Lib.hid (And.intro hl.byt hh.byt)
  have HMT : Hid (t.mb < w.heap.size) := Lib.hid (by obtain ⟨es, ck, hm⟩ := h.mapAt; exact (Array.getElem?_eq_some_iff.1 hm).1)
  obtain ⟨hq, hs, hb⟩ := allocs_get [.cells #[.slice none 0 0] 22, .cells #[.int .i64 0] 30, .cells #[.slice none 0 0] 22] w
  have q0 := hq 0 _ rfl
  have q1 := hq 1 _ rfl
  have q2 := hq 2 _ rfl
  simp only [List.foldl_cons, List.foldl_nil, List.length_cons, List.length_nil, Nat.reduceAdd, Nat.add_zero] at hs hb q0 q1 q2
  clear hq
  obtain ⟨w2, hw2⟩ : ∃ w2, (((w.alloc (.cells #[.slice none 0 0] 22)).alloc (.cells #[.int .i64 0] 30)).alloc (.cells #[.slice none 0 0] 22)) = w2 := ⟨_, rfl⟩
  rw [hw2] at hs hb q0 q1 q2
  have HE := Lib.hid (entries_any (some ⟨t.b, 0, none⟩) la ha Lo Hi n m c d w2 (hl.kept hb) (hh.kept hb) hn9 hm9)
  obtain ⟨H, hH⟩ : ∃ H, w.heap.size = H := ⟨_, rfl⟩
  rw [hH] at hs q0 q1 q2 HMT
  have HQ := Lib.hid (And.intro q0 (And.intro q1 q2))
  have HB := Lib.hid hb
  have HS := Lib.hid hs
  have HHH := Lib.hid hH
  clear h hl hh hn9 hm9 hrl hML q0 q1 q2 hb hs hH
  refine (callsIn_wide (n := 12)).1 ?_
  refine callsIn_of_wp_marks Tryz.func18 rfl trivial ?_ rfl
  simp only [Tryz.ntmps18, List.size_toArray, List.length_cons, List.length_nil, Nat.reduceAdd, Nat.reduceSub, Array.replicate_succ, Array.replicate_zero, List.push_toArray, List.append_toArray, List.nil_append, List.cons_append]
  gi_wp2
  refine ⟨trivial, ?_⟩
  refine (callsIn_wide.2 HE.out).mono ?_
  rintro e w3 ⟨rfl, b3, h3, lo, hi, hlo, hhi, e1, e2, rl, rh⟩
  gi_wp2
  subst hlo
  subst hhi
  rw [HS.out] at h3 e1 e2 rl rh ⊢
  obtain ⟨M, hM⟩ : ∃ M, (rangeP t.tb lo.l hi.l).1 = M := ⟨_, rfl⟩
  rw [hM] at HML
  have HMM := Lib.hid hM
  obtain ⟨L, hL⟩ : ∃ L, w3.heap.size = L := ⟨_, rfl⟩
  have hHL : H + 6 ≤ L := by
    have := (Array.getElem?_eq_some_iff.1 e2).1
    omega
  have HHL := Lib.hid hHL
  have T3 : Hid (Tw t.mb w w3) := Lib.hid (Tw.of_below (HB.out.trans (b3.mono HB.out.size)))
  have TA3 : Hid (TabAt w3 t) := Lib.hid ((HH.out.kept HB.out).kept b3)
  have hI0 : IA H L t.mb w3 M (0, w3) w3 := by
    refine ⟨⟨Kp.refl _ _, (b3.block _ (by rw [HS.out]; omega)).trans HQ.out.1, (b3.block _ (by rw [HS.out]; omega)).trans HQ.out.2.1, [], none, 0, ⟨(b3.block _ (by rw [HS.out]; omega)).trans HQ.out.2.2, rfl, Erow.nil _ _, EMades.nil _ _⟩, rfl⟩, Fr.refl _ _⟩
  have HT3 : Hid (TabW (OutCl H L w3) w3 t) := Lib.hid (by
    obtain ⟨l0, A0, c0, ho0, hl0⟩ := hI0.1.out
    refine TabW.kept (TabW.kept (HH.out.w (S := OutCl H L w3) (fun g hg q => ?_)) HB.out) b3
    rw [ho0.cl] at q
    have := ho0.low
    have hH := HHH.out
    rcases q with k | k | k | k | k
    · omega
    · omega
    · omega
    · have := (this.1 _ k).1; omega
    · have := (this.2 _ k).1; omega)
  have E3 := Lib.hid (And.intro h3 (And.intro e1 e2))
  have RL3 := Lib.hid (And.intro rl rh)
  have HI0 := Lib.hid hI0
  have hOI : OwnAt L (IA H L t.mb w3 M) := OwnAt.ia (by omega) HMT.out (by omega)
  have hOX : OwnAt L (XL H L t.mb w3 M) := OwnAt.xl (by omega) HMT.out (by omega)
  replace hOI : OwnAt w3.heap.size (IA H L t.mb w3 M) := by rw [hL]; exact hOI
  replace hOX : OwnAt w3.heap.size (XL H L t.mb w3 M) := by rw [hL]; exact hOX
  rw [HHH.out]
  clear hM hI0 h3 e1 e2 rl rh b3 HE hw2 HQ HB
  refine range_toldL (σ := Nat × World) (gf := 52) (lb := #[.pointer (some ⟨H + 3, 0, none⟩), .pointer (some ⟨H + 3 + 1, 0, none⟩), .pointer (some ⟨H + 3 + 2, 0, none⟩)]) rfl (enters_of Tryz.func52 (by kernel_rfl) rfl)
    (IA H L t.mb w3 M) (XL H L t.mb w3 M) (fun _ => .ret) hOI hOX (OnA L M) (OffA M) (0, w3) HI0.out
    (fun s => s.1 = M.length ∧ (rangeP t.tb lo.l hi.l).2 = false ∧ TabW (OutCl H L s.2) s.2 t ∧ ¬ OutCl H L s.2 t.mb) (fun s => s.1 = M.length ∧ (rangeP t.tb lo.l hi.l).2 = true ∧ TabW (OutCl H L s.2) s.2 t ∧ ¬ OutCl H L s.2 t.mb) ?size ?on ?off ?iter ?done ?left
  case size =>
    rintro s args s' W (⟨-, -, -, y, rfl, -⟩ | ⟨-, -, rfl, -⟩) <;> rfl
  case iter =>
    intro R R' hR hRs hyes hno hR' hRs' hJ W hi' hr
    rw [hL] at hR hRs hyes hno hR' hRs' ⊢
    have hG := all_goer (N := 8) HHL.out hL HMT.out TA3.out.mapAt HMM.out E3.out.1 E3.out.2.1 E3.out.2.2 RL3.out.1 RL3.out.2 HBY.out.1 HBY.out.2 R R' hR hRs hR' hRs' (fun s args s' W ho hi hr => YieldAt.any (hyes s args s' W ho hi hr)) (fun s args s' W ho hi hr => YieldAt.any (hno s args s' W ho hi hr))
    have hT0 : TabW (OutCl H L W) W t := (HT3.out.fr hi'.2 (HI0.out.1.no_mb (by omega) HMT.out))
    refine (entries_iter 8 (L + 1) t lo hi (H + 3) (H + 4) (H + 5) (L + 2) _ _ _ _ hG HRL.out W ⟨⟨hi'.1, hr⟩, hT0⟩ (hRs W hr).1 (by have := (hRs W hr).1; omega)).mono ?_
    rintro e W' ⟨hv, hq, hT⟩
    refine ⟨hv, ?_⟩
    rcases hq with ⟨q1, q2, q3, q4⟩ | ⟨s, ⟨q1, q2⟩, q3, s', q4⟩
    · rw [HMM.out] at q3
      exact .inl ⟨(M.length, W'), ⟨rfl, q1, hT, q3.no_mb (by omega) HMT.out⟩, ⟨q3, Fr.refl _ _⟩, q4⟩
    · rw [HMM.out] at q2
      rcases q2 with ⟨-, q2⟩ | ⟨q2, q5⟩
      · cases q2
      · subst q2
        exact .inr ⟨(M.length, W'), ⟨rfl, q5, hT, q3.no_mb (by omega) HMT.out⟩, ⟨q3, Fr.refl _ _⟩, hJ _ _ _ rfl q4⟩
  case done =>
    rintro s W ⟨d1, d2, d3, d4⟩ ⟨hi1, hi2⟩ hK
    rw [hL] at hK ⊢
    obtain ⟨l, A, c', ho, hl⟩ := hi1.out
    have hTW : TabW (OutCl H L W) W t := d3.fr hi2 d4
    rw [d1] at ho hl
    rw [List.take_of_length_le (Nat.le_refl _)] at hl
    obtain ⟨j, hj⟩ : ∃ j, M.length = j := ⟨_, rfl⟩
    rw [hj] at ho
    have x2 : W.cell? ⟨H + 1 + 1, 0, none⟩ = some (.slice A j c') := by have := ho.1; simp [World.cell?, this]
    have p0 : W.cell? ⟨H, 0, none⟩ = some (.slice none 0 0) := by have := hi1.r0; simp [World.cell?, this]
    have f0 : W.frozen? ⟨H, 0, none⟩ = false := by have := hi1.r0; simp [World.frozen?, this]
    have p1 : W.cell? ⟨H + 1, 0, none⟩ = some (.int .i64 0) := by have := hi1.r1; simp [World.cell?, this]
    have f1 : W.frozen? ⟨H + 1, 0, none⟩ = false := by have := hi1.r1; simp [World.frozen?, this]
    obtain ⟨P1, P2⟩ := set_pair (u := .slice A j c') (v := .int .i64 0) hi1.r0 hi1.r1 (by omega)
    have P3 := set_pair_other W H (H + 1)
    have hK2 : ((W.setCell ⟨H, 0, none⟩ (.slice A j c')).setCell ⟨H + 1, 0, none⟩ (.int .i64 0)).heap[L]? = some (.deferred (some [])) := (P3 L _ _ (by omega) (by omega)).trans hK
    have hput : ∀ g o, g ≠ L → ((W.setCell ⟨H, 0, none⟩ (.slice A j c')).setCell ⟨H + 1, 0, none⟩ (.int .i64 0)).heap[g]? = some o → (((W.setCell ⟨H, 0, none⟩ (.slice A j c')).setCell ⟨H + 1, 0, none⟩ (.int .i64 0)).putObj L (.deferred none)).heap[g]? = some o := fun g o hg ho => (World.putObj_heap_other (by omega)).trans ho
    have hall : ∀ g, (g ≠ H ∧ g ≠ H + 1 ∧ g ≠ L) → (((W.setCell ⟨H, 0, none⟩ (.slice A j c')).setCell ⟨H + 1, 0, none⟩ (.int .i64 0)).putObj L (.deferred none)).heap[g]? = W.heap[g]? := fun g hg => (World.putObj_heap_other (by omega)).trans (P3 g _ _ (by omega) (by omega))
    have hkp : Kp (fun g => g ≠ H ∧ g ≠ H + 1 ∧ g ≠ L) W (((W.setCell ⟨H, 0, none⟩ (.slice A j c')).setCell ⟨H + 1, 0, none⟩ (.int .i64 0)).putObj L (.deferred none)) := ⟨rfl, rfl, rfl, by have := (grownBy_putObj' ((W.setCell ⟨H, 0, none⟩ (.slice A j c')).setCell ⟨H + 1, 0, none⟩ (.int .i64 0)) L (.deferred none)).size; simp, hall⟩
    have HE := Lib.hid (out_end (W5 := (((W.setCell ⟨H, 0, none⟩ (.slice A j c')).setCell ⟨H + 1, 0, none⟩ (.int .i64 0)).putObj L (.deferred none))) HHH.out (by omega) HMT.out T3.out hi1.kp ho hTW hkp (fun g o hg hn => (hall g hn).trans hg))
    have k0 : (((W.setCell ⟨H, 0, none⟩ (.slice A j c')).setCell ⟨H + 1, 0, none⟩ (.int .i64 0)).putObj L (.deferred none)).cell? ⟨H, 0, none⟩ = some (.slice A j c') := by have := hput H _ (by omega) P1; simp [World.cell?, this]
    have k1 : (((W.setCell ⟨H, 0, none⟩ (.slice A j c')).setCell ⟨H + 1, 0, none⟩ (.int .i64 0)).putObj L (.deferred none)).cell? ⟨H + 1, 0, none⟩ = some (.int .i64 0) := by have := hput (H + 1) _ (by omega) P2; simp [World.cell?, this]
    have HK := Lib.hid (And.intro hK2 (And.intro k0 k1))
    have HL := Lib.hid (And.intro hl (And.intro ho.2.1 d2))
    clear hK2 k0 k1 hl ho d1 d2 d3 d4 hi1 hi2 hkp hall hput P1 P2 P3 hTW hK hj
    gi_wp2
    obtain ⟨hK2, k0, k1⟩ := HK.out
    refine ⟨by simp, .inl ⟨_, _, rfl, run_takeDeferred hK2, ?_⟩⟩
    refine ⟨.tuple #[.slice A j c', .int .i64 0], ?_, l, A, c', HL.out.1.trans HMM.out.symm, ?_, by rw [HHH.out]; exact HE.out.1, by rw [HHH.out]; exact HE.out.2.1, HE.out.2.2.1, HE.out.2.2.2⟩
    rotate_left
    · rw [HL.out.2.1, HL.out.2.2]
      rfl
    · simp [results, Tryz.f18, go_sem, k0, k1]
  case left =>
    rintro s W ⟨d1, d2, d3, d4⟩ ⟨hi1, hi2⟩ hK
    rw [hL] at hK ⊢
    obtain ⟨l, A, c', ho, hl, h0⟩ := hi1.out
    have hTW : TabW (OutCl H L W) W t := d3.fr hi2 d4
    rw [d1] at ho hl h0
    rw [List.take_of_length_le (Nat.le_refl _)] at hl
    obtain ⟨j, hj⟩ : ∃ j, M.length = j := ⟨_, rfl⟩
    rw [hj] at ho h0
    have hall : ∀ g, (g ≠ H ∧ g ≠ H + 1 ∧ g ≠ L) → (W.putObj L (.deferred none)).heap[g]? = W.heap[g]? := fun g hg => World.putObj_heap_other (by omega)
    have hkp : Kp (fun g => g ≠ H ∧ g ≠ H + 1 ∧ g ≠ L) W (W.putObj L (.deferred none)) := ⟨rfl, rfl, rfl, (grownBy_putObj' W L (.deferred none)).size, hall⟩
    have HE := Lib.hid (out_end (W5 := W.putObj L (.deferred none)) HHH.out (by omega) HMT.out T3.out hi1.kp ho hTW hkp (fun g o hg hn => (hall g hn).trans hg))
    have k0 : (W.putObj L (.deferred none)).cell? ⟨H, 0, none⟩ = some (.slice A j c') := by have : (W.putObj L (.deferred none)).heap[H]? = _ := (World.putObj_heap_other (by omega)).trans h0; simp [World.cell?, this]
    have k1 : (W.putObj L (.deferred none)).cell? ⟨H + 1, 0, none⟩ = some (.int .i64 11) := by have : (W.putObj L (.deferred none)).heap[H + 1]? = _ := (World.putObj_heap_other (by omega)).trans hi1.r1; simp [World.cell?, this]
    have HK := Lib.hid (And.intro hK (And.intro k0 k1))
    have HL := Lib.hid (And.intro hl (And.intro ho.2.1 d2))
    clear k0 k1 hl ho d1 d2 d3 d4 hi1 hi2 hkp hall hTW hK hj h0
    gi_wp2
    obtain ⟨hK2, k0, k1⟩ := HK.out
    refine ⟨by simp, .inl ⟨_, _, rfl, run_takeDeferred hK2, ?_⟩⟩
    refine ⟨.tuple #[.slice A j c', .int .i64 11], ?_, l, A, c', HL.out.1.trans HMM.out.symm, ?_, by rw [HHH.out]; exact HE.out.1, by rw [HHH.out]; exact HE.out.2.1, HE.out.2.2.1, HE.out.2.2.2⟩
    rotate_left
    · rw [HL.out.2.1, HL.out.2.2]
      rfl
    · simp [results, Tryz.f18, go_sem, k0, k1]
  case on =>
    rintro ⟨j, V⟩ args s' W ⟨rfl, hV, hVW, y, rfl, hM, r1, r2⟩ ⟨hk, hf⟩ hsz
    rw [hL] at hsz
    simp only at hV hVW hM r1 r2 hk hf
    obtain ⟨yn, hyn⟩ : ∃ q, y.k.l.length = q := ⟨_, rfl⟩
    obtain ⟨vn, hvn⟩ : ∃ q, y.v.l.length = q := ⟨_, rfl⟩
    rw [En.val_eq, hyn, hvn]
    unfold RoundOf
    rw [hL]
    gi_wp2
    refine ⟨Two.below ((Below.refl (L + 2) W).alloc hsz _) (by omega), fun W₂ g2 hl => ?_⟩
    obtain ⟨k2, f2, z2, e2⟩ := hk.round (by omega) HMT.out hsz g2 hl
    have y1 := own_abide (r1.kept (below_new W _) (Nat.le_refl _)) g2 (fun r e => by injection e with e; subst e; exact hl)
    have y2 := own_abide (r2.kept (below_new W _) (Nat.le_refl _)) g2 (fun r e => by injection e with e; subst e; exact hl)
    have hzz := g2.size
    rw [World.size_alloc] at hzz
    have hVz := hVW.size
    clear g2 hl
    obtain ⟨E, hE⟩ : ∃ E, W.heap.size = E := ⟨_, rfl⟩
    rw [hE] at e2 hzz hVz ⊢
    obtain ⟨c0, c1, c2, c3⟩ : W₂.cell? ⟨E, 0, none⟩ = some (.slice y.k.a yn y.k.c) ∧ W₂.cell? ⟨E, 1, none⟩ = some (.int .i64 y.s) ∧ W₂.cell? ⟨E, 2, none⟩ = some (.bool y.d) ∧ W₂.cell? ⟨E, 3, none⟩ = some (.slice y.v.a vn y.v.c) := by
      refine ⟨?_, ?_, ?_, ?_⟩ <;> simp [World.cell?, e2]
    obtain ⟨l, A, c', ho, hl⟩ := k2.out
    have x2 : W₂.cell? ⟨H + 1 + 1, 0, none⟩ = some (.slice A j c') := by have := ho.1; simp [World.cell?, this]
    have hjM : j < M.length := (List.getElem?_eq_some_iff.1 hM).1
    have HLE := Lib.hid (lit_entry W₂ y.k.a y.v.a y.k.c y.v.c y.k.l y.v.l y.s y.d yn vn hyn hvn)
    have HO := Lib.hid ho
    have HJ := Lib.hid hjM
    have HBX : Hid (∀ (o : Obj) (W3 : World), Below (L + 2) (W₂.alloc o) W3 → W3.cell? ⟨H + 1 + 1, 0, none⟩ = some (.slice A j c') ∧ W3.frozen? ⟨H + 1 + 1, 0, none⟩ = false) := Lib.hid (fun o W3 b => by
      have : W3.heap[H + 2]? = some (.cells #[.slice A j c'] 22 (0, 0)) := by
        rw [b.block _ (by omega), RowKit.Below.heap_alloc _ _ _ (by omega)]
        exact ho.1
      refine ⟨?_, ?_⟩ <;> simp [World.cell?, World.frozen?, this])
    have HNX := Lib.hid (fun (o : Obj) (A2 : Option Addr) (c2 : Nat) (W3 : World) r3 b3 g3 p3 => ia_next (o := o) (A2 := A2) (c2 := c2) (W3 := W3) (by omega : H + 3 ≤ L) HMT.out k2 ho hl z2 (hf.trans f2) hV (by omega) hM y1 y2 r3 b3 g3 p3)
    have HZ2 := Lib.hid z2
    clear k2 f2 z2 e2 y1 y2 hE hyn hvn hk hf hM r1 r2 hVW hsz ho hl hjM hOI hOX
    gi_wp2_with (gi_at_builtin; refine wpListIn_append_one _ rfl (.tmp 21) (.tmp 23) rfl (L + 2) A c' l y _ j 1 rfl rfl HO.out.2.1 (HO.out.2.2.1.alloc _) HLE.out (by rw [World.size_alloc]; have := HZ2.out; omega) (by rw [HO.out.2.1]; have := HML.out; have := HJ.out; omega) ?_; intro A2 c2' W3 r3 b3 g3 p3; have R3 := Lib.hid (And.intro r3 (And.intro b3 (And.intro g3 p3))); obtain ⟨x3, x4⟩ := HBX.out _ _ b3; clear r3 b3 g3 p3)
    exact HNX.out _ _ _ _ R3.out.1 R3.out.2.1 R3.out.2.2.1 R3.out.2.2.2
  case off =>
    rintro ⟨j, V⟩ args s' W ⟨rfl, h2, rfl, hM⟩ ⟨hk, hf⟩ hsz
    rw [hL] at hsz
    simp only at h2 hM hk hf
    unfold RoundOf
    rw [hL]
    gi_wp2
    refine ⟨Two.below ((Below.refl (L + 2) W).alloc hsz _) (by omega), fun W₂ g2 hl => ?_⟩
    obtain ⟨k2, f2, z2, -⟩ := hk.round (by omega) HMT.out hsz g2 hl
    clear g2 hl
    obtain ⟨l, A, c', ho, hl⟩ := k2.out
    have x2 : W₂.cell? ⟨H + 1 + 1, 0, none⟩ = some (.slice A j c') := by have := ho.1; simp [World.cell?, this]
    have p0 : W₂.cell? ⟨H, 0, none⟩ = some (.slice none 0 0) := by have := k2.r0; simp [World.cell?, this]
    have f0 : W₂.frozen? ⟨H, 0, none⟩ = false := by have := k2.r0; simp [World.frozen?, this]
    have p1 : W₂.cell? ⟨H + 1, 0, none⟩ = some (.int .i64 0) := by have := k2.r1; simp [World.cell?, this]
    have f1 : W₂.frozen? ⟨H + 1, 0, none⟩ = false := by have := k2.r1; simp [World.frozen?, this]
    obtain ⟨P1, P2⟩ := set_pair (u := .slice A j c') (v := .int .i64 11) k2.r0 k2.r1 (by omega)
    have P3 := set_pair_other W₂ H (H + 1)
    have hall : ∀ g, g ≠ H → g ≠ H + 1 → ((W₂.setCell ⟨H, 0, none⟩ (.slice A j c')).setCell ⟨H + 1, 0, none⟩ (.int .i64 11)).heap[g]? = W₂.heap[g]? := fun g h1 h2 => P3 g _ _ h1 h2
    have ho5 := ho.of (W' := ((W₂.setCell ⟨H, 0, none⟩ (.slice A j c')).setCell ⟨H + 1, 0, none⟩ (.int .i64 11))) (hall (H + 2) (by omega) (by omega)) (fun g o g1 g2 _ => (hall g (by omega) (by omega)).trans g2)
    have HX : Hid (Two L W₂ ((W₂.setCell ⟨H, 0, none⟩ (.slice A j c')).setCell ⟨H + 1, 0, none⟩ (.int .i64 11)) ∧ XL H L t.mb w3 M (j, V) ((W₂.setCell ⟨H, 0, none⟩ (.slice A j c')).setCell ⟨H + 1, 0, none⟩ (.int .i64 11))) := Lib.hid (by
      refine ⟨⟨hall _ (by omega) (by omega), hall _ (by omega) (by omega)⟩, ⟨?_, P2, l, A, c', ho5, hl, P1⟩, ?_⟩
      · exact kp_step k2.kp rfl rfl rfl (by simp) (fun g hg => hall g (by omega) (by omega))
      · refine (hf.trans f2).trans (fun g o hg hn => ?_)
        rw [ho.cl] at hn
        refine ⟨(hall g (fun e => hn (.inl (by omega))) (fun e => hn (.inl (by omega)))).trans hg, fun q => hn ?_⟩
        exact (ho5.cl g).1 q)
    clear k2 f2 z2 hk hf hM ho hl P1 P2 P3 hall ho5 hsz hOI hOX
    gi_wp2
    exact ⟨rfl, HX.out⟩
end Go.Proofs.YtmgggddnfeojmaaGreat
namespace Go.Proofs.YtmgggddnfeojmaaGreat
theorem packE_size (l : List Er) : (packE l).length ≤ 10 + 60 * l.length + sizeE l := by
  have h3 := flatP_size [] (pairsE l)
  have h4 := pairs_size l.length l (Nat.le_refl _)
  have h5 := versE_size l
  have h6 := digs_len (flatP [] (pairsE l)).length
  have h7 := sizeE_two l
  unfold packE
  simp only [List.length_append]
  omega
theorem frames_size : ∀ ps : List (List Er), (∀ p ∈ ps, p ≠ []) → (ps.flatMap frameE).length ≤ 78 * ps.flatten.length + sizeE ps.flatten
  | [], _ => Nat.zero_le _
  | p :: ps, h => by
    have ih := frames_size ps (fun q hq => h q (by simp [hq]))
    have h1 := packE_size p
    have h2 : 1 ≤ p.length := by
      have := h p (by simp)
      cases p with
      | nil => exact absurd rfl this
      | cons a l => simp
    have h3 : (frameE p).length = 8 + (packE p).length := by unfold frameE; rw [putL_len]
    rw [List.flatMap_cons, List.length_append, h3, List.flatten_cons, List.length_append, sizeE_append]
    omega
theorem index_size : ∀ ps : List (List Er), (∀ p ∈ ps, p ≠ []) → sizeE (indexE ps) ≤ sizeE ps.flatten + 20 * ps.flatten.length ∧ (indexE ps).length ≤ ps.flatten.length
  | [], _ => ⟨Nat.zero_le _, Nat.zero_le _⟩
  | p :: ps, h => by
    have ih := index_size ps (fun q hq => h q (by simp [hq]))
    cases p with
    | nil => exact absurd rfl (h [] (by simp))
    | cons e l =>
      have k1 := digs_len ((e :: l).length : Nat)
      have k2 := digs_len ((frameE (e :: l)).length : Nat)
      have e1 : indexE ((e :: l) :: ps) = tellE (e :: l) :: indexE ps := rfl
      rw [e1, sizeE_cons, tellE_cons, List.flatten_cons, sizeE_append, sizeE_cons]
      simp only [List.length_append, List.length_cons] at ih k1 k2 ⊢
      omega
theorem fileE_size {l : List Er} {k : Nat} (ho : OrdL l) (hne : l ≠ []) (hB : ByL l) (h1 : 1 ≤ k) (h2 : k ≤ 1024) : (fileE l k).length ≤ 228 + 176 * l.length + 2 * sizeE l := by
  obtain ⟨ps, qs, P⟩ := parts_of ho hne hB h1 h2
  have p1 := frames_size ps (fun p hp => (P.ok p hp).1.1)
  have p2 := frames_size qs (fun p hp => (P.qok p hp).1.1)
  have p3 := index_size ps (fun p hp => (P.ok p hp).1.1)
  rw [P.flat] at p1 p3
  rw [P.qflat] at p2
  have h3 := P.key.1
  have h4 := digs_len (qs.length : Nat)
  have h5 := digs_len ((lastE l).length : Nat)
  have h6 : (headT qs.length (lastE l)).length = 8 + ((digs qs.length).length + ((digs (lastE l).length).length + (lastE l).length)) := by
    unfold headT
    rw [putL_len]
    simp only [List.length_append]
  rw [P.file, List.length_append, List.length_append, h6]
  omega
theorem fileE_byt {l : List Er} {k : Nat} (ho : OrdL l) (hne : l ≠ []) (hB : ByL l) (hl : l.length ≤ 9000000000000000000) (h1 : 1 ≤ k) (h2 : k ≤ 1024) : Byt (fileE l k) := by
  obtain ⟨ps, qs, P⟩ := parts_of ho hne hB h1 h2
  have hf : ∀ rs : List (List Er), (∀ p ∈ rs, PieceOk 1024 p ∧ ByL p) → Byt (rs.flatMap frameE) := fun rs h x hx => by
    obtain ⟨p, hp, hx⟩ := List.mem_flatMap.1 hx
    obtain ⟨⟨-, h2, h3, -⟩, h5⟩ := h p hp
    exact putL_byt _ (packE_byt h3 (by omega) h5) x hx
  have h3 := P.ql
  rw [P.file]
  refine Byt.append (putL_byt _ ?_) (Byt.append (hf qs P.qok) (hf ps P.ok))
  have h4 := P.key.1
  exact (digs_byt _ (by omega) (by omega)).append ((digs_byt _ (by omega) (by omega)).append P.key.2)
end Go.Proofs.YtmgggddnfeojmaaGreat
namespace Go.Proofs.YtmgggddnfeojmaaGreat
open Go.RowKit
open Go.Maps
/-- A file as it lies. -/
structure Fl where
  s : ByteArray
  d : Sl
  y : Int
def Fl.val (q : Fl) : Value := .agg #[.string q.s, q.d.val, .int .i64 q.y]
def Fl.cells (q : Fl) : List Value := [.string q.s, q.d.val, .int .i64 q.y]
def fvals (l : List Fl) : List Value := l.flatMap Fl.cells
theorem fvals_len : ∀ l : List Fl, (fvals l).length = l.length * 3
  | [] => rfl
  | q :: l => by
    have := fvals_len l
    unfold fvals at this ⊢
    rw [List.flatMap_cons, List.length_append, this]
    simp [Fl.cells]
    omega
theorem fvals_append (l m : List Fl) : fvals (l ++ m) = fvals l ++ fvals m := by simp [fvals]
theorem fvals_get : ∀ (l : List Fl) (j : Nat) (q : Fl), l[j]? = some q → (fvals l)[j * 3]? = some (.string q.s) ∧ (fvals l)[j * 3 + 1]? = some q.d.val ∧ (fvals l)[j * 3 + 2]? = some (.int .i64 q.y)
  | [], _, _, h => by simp at h
  | p :: l, 0, q, h => by
    simp at h
    subst h
    exact ⟨rfl, rfl, rfl⟩
  | p :: l, j + 1, q, h => by
    have ih := fvals_get l j q (by simpa using h)
    have e : fvals (p :: l) = .string p.s :: p.d.val :: .int .i64 p.y :: fvals l := rfl
    rw [e]
    have e0 : (j + 1) * 3 = j * 3 + 1 + 1 + 1 := by omega
    rw [e0]
    refine ⟨by simpa using ih.1, ?_, ?_⟩
    · rw [show j * 3 + 1 + 1 + 1 + 1 = (j * 3 + 1) + 1 + 1 + 1 by omega]
      simpa using ih.2.1
    · rw [show j * 3 + 1 + 1 + 1 + 2 = (j * 3 + 2) + 1 + 1 + 1 by omega]
      simpa using ih.2.2
theorem fvals_one {l : List Fl} : ∀ u ∈ fvals l, u.oneCell' = true := fun u hu => by
  obtain ⟨q, -, h⟩ := List.mem_flatMap.1 hu
  simp [Fl.cells] at h
  rcases h with rfl | rfl | rfl <;> rfl
/-- The cells of one file, as a walk spells them. -/
def AtF (w : World) (E : Addr) (q : Fl) : Prop := w.cell? E = some (.string q.s) ∧ w.cell? ⟨E.block, E.off + 1, none⟩ = some (.slice q.d.a q.d.l.length q.d.c) ∧ w.cell? ⟨E.block, E.off + 2, none⟩ = some (.int .i64 q.y)
theorem lies_file {w : World} {A : Option Addr} {l : List Fl} {j : Nat} {q : Fl} (h : Lies w A (fvals l)) (hq : l[j]? = some q) : ∃ ad, A = some ad ∧ AtF w (ad.add (j * 3)) q := by
  obtain ⟨h0, h1, h3⟩ := fvals_get l j q hq
  rcases h with h | ⟨ad, rfl, h2⟩
  · rw [h] at h0
    simp at h0
  · refine ⟨ad, rfl, h2 _ _ h0, ?_, ?_⟩
    · have := h2 _ _ h1
      rw [← add_add] at this
      simpa [Addr.add, Sl.val] using this
    · have := h2 _ _ h3
      rw [← add_add] at this
      simpa [Addr.add] using this
theorem info64 : (Tryz.prog.info? 64).map (fun i => (i.zero, i.size, i.bytes)) = some (some (.agg #[.string ⟨#[]⟩, .slice none 0 0, .int .i64 0]), 3, 48) := by kernel_rfl
/-- A row of files of the call's own, or nil. -/
def Frow (w : World) (B : Nat) (A : Option Addr) (c : Nat) (l : List Fl) : Prop := w.ownsRow B 64 3 (.slice A l.length c) l.length (fvals l)
theorem Frow.nil (w : World) (B : Nat) : Frow w B none 0 [] := World.ownsRow_nil w B _ _
theorem Frow.lies {w : World} {B : Nat} {A : Option Addr} {c : Nat} {l : List Fl} (h : Frow w B A c l) : Lies w A (fvals l) := by
  rcases h.2 with ⟨_, h⟩ | ⟨g, cap, cur, e, _⟩
  · exact .inl (by rw [List.eq_nil_of_length_eq_zero h]; rfl)
  · injection e with e1 e2 e3
    subst e1
    exact .inr ⟨_, rfl, fun j u hu => World.ownsRow.cells h (g := g) rfl j u hu⟩
theorem Frow.kept {w w' : World} {B C : Nat} {A : Option Addr} {c : Nat} {l : List Fl} (h : Frow w B A c l) (hb : Below C w w') (hC : w.heap.size ≤ C) : Frow w' B A c l := own_kept h hb hC
theorem Frow.mono {w : World} {B C : Nat} {A : Option Addr} {c : Nat} {l : List Fl} (h : Frow w B A c l) (hC : C ≤ B) : Frow w C A c l := own_mono h hC
theorem Frow.alloc {w : World} {B : Nat} {A : Option Addr} {c : Nat} {l : List Fl} (h : Frow w B A c l) (o : Obj) : Frow (w.alloc o) B A c l := h.kept (below_new w o) (Nat.le_refl _)
theorem lit_file (w : World) (q : Fl) (cs : Array Value) (e : cs = (fvals [q]).toArray) : Lies (w.alloc (.cells cs 64)) (some ⟨w.heap.size, 0, none⟩) (fvals [q]) := lit_lies w _ cs e _
/-- It answers files, in new memory. -/
def Files (w : World) (B : Nat) (l : List Fl) (e : Ending) (w' : World) : Prop := ∃ A c, e = .returned (.slice A l.length c) ∧ Frow w' B A c l ∧ Below B w w'
/-- A file put in, in the order of the names. -/
def insF (q : Fl) : List Fl → List Fl
  | [] => [q]
  | x :: l => if ltS q.s x.s then q :: x :: l else x :: insF q l
theorem insF_len (q : Fl) : ∀ l : List Fl, (insF q l).length = l.length + 1
  | [] => rfl
  | x :: l => by
    unfold insF
    split
    · simp
    · simp [insF_len q l]
/-- An append of files, as a step of a region that draws. -/
theorem step_append_frow (w : World) {ops : Array Oper} {o : Oper} {a : Act} {K : Act → World → Prop} {Q : Exit → Act → World → Prop} {E : Prop} (hgd : o.guard = none) (s x : Operand)
    (ho : o.op = .call { callee := .builtin .append, args := #[s, x], argTypes := #[35, 35] })
    (B : Nat) (A : Option Addr) (c : Nat) (T U : List Fl) (C : Option Addr) (n m cm : Nat) (hs : a.eval s = .slice A n c) (hx : a.eval x = .slice C m cm) (en : T.length = n) (em : U.length = m) (h : Frow w B A c T) (hm : Lies w C (fvals U)) (hB : B ≤ w.heap.size) (hr : (T.length + U.length) * 48 ≤ 140737488355328)
    (k : ∀ A' c' w', Frow w' B A' c' (T ++ U) → Below B w w' → w.grownBy w' (Value.slice A n c).ownBlock → K (a.put o.dst (.slice A' (n + m) c')) w') : if Region.wanted o (yielded ops a.tmps) = true then Oper.wp Tryz.prog o a w K Q else E := by
  have hw : Region.wanted o (yielded ops a.tmps) = true := by simp [Region.wanted, hgd]
  rw [if_pos hw]
  subst en
  subst em
  obtain ⟨i, hi, hz0, hz1, hz2⟩ := info_parts info64
  obtain ⟨A', c', w', r, h2, h3, h4⟩ := run_append_grown (P := Tryz.prog) w 35 o.type 64 i (.agg #[.string ⟨#[]⟩, .slice none 0 0, .int .i64 0]) 3 48 Tryz.underlying35 hi hz0 hz1 hz2 rfl (by decide) B A T.length c (fvals T) h C U.length cm (fvals U) (by rw [fvals_len]) hm fvals_one (by unfold maxLen; omega) hr hB
  rw [← fvals_append] at h2
  have k' := k A' c' w' (by unfold Frow; rw [List.length_append]; exact h2) h3 h4
  unfold Oper.wp execOp
  simp only [ho, resolve, invoke, builtin, Sem.run_bind, Sem.run_pure, Result.andThen_ok, List.map_toArray, List.map_cons, List.map_nil, hs, hx, r]
  exact k'
/-- What an append onto a row of files lets be: rows of bytes. -/
theorem Row.besideF {w w' : World} {B D : Nat} {A C : Option Addr} {c d : Nat} {L : List Int} {T : List Fl} (h : Row w B A c L) (hs : Frow w D C d T) (hg : w.grownBy w' (Value.slice C T.length d).ownBlock) : Row w' B A c L := by
  refine ⟨h.1, ?_⟩
  rcases h.2 with hn | ⟨g, cap, cur, e1, h1, h2, h3⟩
  · exact .inl hn
  · refine .inr ⟨g, cap, cur, e1, h1, ?_, h3⟩
    have hlt : g < w.heap.size := (Array.getElem?_eq_some_iff.1 h2).1
    rw [hg.block g hlt, h2]
    intro e
    rcases hs.2 with ⟨hn, _⟩ | ⟨g', cap', cur', e', _, h2', _⟩
    · rw [hn] at e
      simp [Value.ownBlock] at e
    · rw [e'] at e
      obtain rfl : g = g' := by simpa [Value.ownBlock] using e
      rw [h2] at h2'
      injection h2' with h2'
      injection h2' with _ h2'
      exact absurd h2' (by decide)
/-- Files whose bytes are rows of the call's own. -/
def FMades (w : World) (B : Nat) (l : List Fl) : Prop := ∀ q ∈ l, Row w B q.d.a q.d.c q.d.l
theorem FMades.nil (w : World) (B : Nat) : FMades w B [] := fun _ h => by cases h
theorem FMades.kept {w w' : World} {B C : Nat} {l : List Fl} (h : FMades w B l) (hb : Below C w w') (hC : w.heap.size ≤ C) : FMades w' B l := fun q hq => (h q hq).kept hb hC
theorem FMades.mono {w : World} {B C : Nat} {l : List Fl} (h : FMades w B l) (hC : C ≤ B) : FMades w C l := fun q hq => (h q hq).mono hC
theorem FMades.snoc {w : World} {B : Nat} {l : List Fl} {q : Fl} (h : FMades w B l) (hq : Row w B q.d.a q.d.c q.d.l) : FMades w B (l ++ [q]) := fun x hx => by
  rcases List.mem_append.1 hx with hx | hx
  · exact h x hx
  · rw [List.mem_singleton] at hx
    subst hx
    exact hq
theorem FMades.besideF {w w' : World} {B D : Nat} {C : Option Addr} {d : Nat} {l T : List Fl} (h : FMades w B l) (hs : Frow w D C d T) (hg : w.grownBy w' (Value.slice C T.length d).ownBlock) : FMades w' B l := fun q hq => (h q hq).besideF hs hg
/-- What is read of a file. -/
def Fl.rd (q : Fl) : ByteArray × List Int × Int := (q.s, q.d.l, q.y)
/-- Files that can be read. -/
def FIns (w : World) (l : List Fl) : Prop := ∀ q ∈ l, In w q.d.a q.d.l q.d.l.length q.d.c
theorem FIns.kept {w w' : World} {l : List Fl} (h : FIns w l) (hb : Below w.heap.size w w') : FIns w' l := fun q hq => (h q hq).kept hb
theorem FMades.ins {w : World} {B : Nat} {l : List Fl} (h : FMades w B l) (hB : ∀ q ∈ l, Byt q.d.l) : FIns w l := fun q hq => (h q hq).in_ (hB q hq)
theorem lit_file3 (w : World) (xs : ByteArray) (A : Option Addr) (c : Nat) (xl : List Int) (xy : Int) (m : Nat) (hm : xl.length = m) : Lies (w.alloc (.cells #[.string xs, .slice A m c, .int .i64 xy] 64)) (some ⟨w.heap.size, 0, none⟩) (fvals [⟨xs, ⟨A, c, xl⟩, xy⟩]) := by
  subst hm
  exact lit_file w ⟨xs, ⟨A, c, xl⟩, xy⟩ _ rfl
/-- A file's place; -1: there is none. -/
def findI (s : ByteArray) (l : List Fl) : Int := ((l.findIdx? (fun q => decide (q.s = s))).map (fun i => (i : Int))).getD (-1)
theorem findI_md (s : ByteArray) (l : List Fl) : findI s l = ((findM s (l.map Fl.rd)).map (fun i => (i : Int))).getD (-1) := by
  unfold findI findM
  rw [List.findIdx?_map]
  rfl
theorem insM_rd (q : Fl) : ∀ l : List Fl, (insF q l).map Fl.rd = insM q.rd (l.map Fl.rd)
  | [] => rfl
  | x :: l => by
    have ih := insM_rd q l
    unfold insF insM
    show List.map Fl.rd (if ltS q.s x.s then _ else _) = if ltS q.s x.s then _ else _
    split
    · rfl
    · rw [List.map_cons, ih]
/-- Files put in one behind the other. -/
def insAll (l : List Fl) : List Fl := l.foldl (fun acc q => insF q acc) []
theorem insAll_snoc (l : List Fl) (k : Nat) (q : Fl) (hq : l[k]? = some q) : insAll (l.take (k + 1)) = insF q (insAll (l.take k)) := by
  unfold insAll
  rw [List.take_add_one, hq]
  simp
theorem insAll_len : ∀ l : List Fl, (insAll l).length = l.length := fun l => by
  have key : ∀ (l acc : List Fl), (l.foldl (fun acc q => insF q acc) acc).length = acc.length + l.length := fun l => by
    induction l with
    | nil => intro acc; simp
    | cons x l ih =>
      intro acc
      rw [List.foldl_cons, ih, insF_len, List.length_cons]
      omega
  have := key l []
  simpa [insAll] using this
/-- A name stands twice. -/
def dupB (l : List Fl) : Bool := (List.range l.length).any fun k => match l[k]? with
  | none => false
  | some q => decide (0 ≤ findI q.s (insAll (l.take k)))
theorem dupB_true {l : List Fl} {k : Nat} {q : Fl} (hq : l[k]? = some q) (h : 0 ≤ findI q.s (insAll (l.take k))) : dupB l = true := by
  unfold dupB
  rw [List.any_eq_true]
  exact ⟨k, List.mem_range.2 (List.getElem?_eq_some_iff.1 hq).1, by rw [hq]; simpa using h⟩
theorem dupB_false {l : List Fl} (h : ∀ (k : Nat) (q : Fl), l[k]? = some q → findI q.s (insAll (l.take k)) < 0) : dupB l = false := by
  unfold dupB
  rw [List.any_eq_false]
  intro k _
  cases hq : l[k]? with
  | none => simp
  | some q => simpa using h k q hq
theorem some_true {p : Fl → Bool} {l : List Fl} {k : Nat} {q : Fl} (hq : l[k]? = some q) (h : p q = true) : l.any p = true := List.any_eq_true.2 ⟨q, List.mem_of_getElem? hq, h⟩
theorem some_false {p : Fl → Bool} {l : List Fl} (h : ∀ (k : Nat) (q : Fl), l[k]? = some q → p q = false) : l.any p = false := by
  rw [List.any_eq_false]
  intro q hq
  obtain ⟨k, hk, e⟩ := List.mem_iff_getElem.1 hq
  rw [h k q (by rw [List.getElem?_eq_getElem hk, e])]
  simp
/-- P7.1, Of: the error. -/
def ofE (l : List Fl) : Int :=
  if l.any (fun q => !okName q.s) then 23 else if dupB l then 31 else if l.any (fun q => decide (q.y < 0 ∨ (q.d.l.length : Int) < q.y)) then 2 else 0
end Go.Proofs.YtmgggddnfeojmaaGreat
namespace Go.Proofs.YtmgggddnfeojmaaGreat
open Go.RowKit
open Go.Maps
/-- It answers files of the call's own, that read so. -/
def Dumped (w : World) (fs : List (ByteArray × List Int × Int)) (e : Ending) (w' : World) : Prop := ∃ l', l'.map Fl.rd = fs ∧ FMades w' w.heap.size l' ∧ Files w w.heap.size l' e w'
set_option maxRecDepth 100000 in
set_option maxHeartbeats 8000000 in
theorem dump_any (B g : Nat) (p : Pk) (w : World) (h : PSt w B g p) (hl : p.l.length * 48 ≤ 140737488355328) (hlg : ∀ q ∈ p.l, q.d.l.length ≤ 140737488355328) (hss : ∀ q ∈ p.l, q.s.size ≤ 140737488355328) :
    Calls Tryz.prog 16 #[.pointer (some ⟨g, 0, none⟩)] w (Dumped w (p.l.map Pf.rd)) := by
  have HN := Lib.hid (names_any B g p w h (by omega))
  have H := Lib.hid h
  have HL := Lib.hid (And.intro hlg hss)
  obtain ⟨n, hn⟩ : ∃ n, p.l.length = n := ⟨_, rfl⟩
  have HNN := Lib.hid hn
  have hT : (p.l.map Pf.s).length = n := by rw [List.length_map, hn]
  unfold Texts7 at HN
  rw [hT] at HN
  rw [hn] at hl
  clear h hlg hss hn hT
  go_enter Tryz.func16, Tryz.ntmps16
  go_wp2_with (go_at_call 41; refine HN.out.mono ?_; rintro e w1 ⟨A1, c1, rfl, r1, b1⟩; have R1 := Lib.hid (And.intro r1.lies b1); clear r1 b1)
  have HT := Lib.hid (fun (W : World) (hb : Below w1.heap.size w1 W) => R1.out.1.kept hb)
  have HP1 := Lib.hid (fun (W : World) (hb : Below w1.heap.size w1 W) => H.out.kept (R1.out.2.trans (hb.mono R1.out.2.size)))
  go_loopw [3, 12] (fun t3 t12 wr => ∃ (k : Nat) (A2 : Option Addr) (c2 : Nat) (l' : List Fl), k ≤ n ∧ t12 = .int .i64 k ∧ t3 = .slice A2 k c2 ∧ Hid (l'.length = k) ∧ Hid (l'.map Fl.rd = (p.l.take k).map Pf.rd) ∧ Hid (FMades wr w1.heap.size l') ∧ Hid (Frow wr w1.heap.size A2 c2 l') ∧ Hid (Below w1.heap.size w1 wr)) (fun _ t12 _ => n - (intOf t12).toNat)
  case atStart => exact ⟨0, none, 0, [], by omega, rfl, rfl, Lib.hid rfl, Lib.hid rfl, Lib.hid (FMades.nil _ _), Lib.hid (Frow.nil _ _), Lib.hid (Below.refl _ _)⟩
  case round =>
    obtain ⟨k, A2, c2, l', hk, rfl, rfl, hl2, hr, hm, r2, b2⟩ := hrel
    by_cases hlt : k < n
    · have hq := List.getElem?_eq_getElem (l := p.l) (i := k) (by have := HNN.out; omega)
      generalize p.l[k]'(by have := HNN.out; omega) = q at hq
      have hmem := List.mem_of_getElem? hq
      have HQ := Lib.hid (And.intro hq hmem)
      obtain ⟨ad, hA, hc⟩ := (HT.out _ b2.out).resolve_left (fun e => by have h2 := congrArg List.length e; rw [List.length_map, List.length_map, List.length_nil] at h2; have := HNN.out; omega)
      subst hA
      have a0 := hc k (.string q.s) (by rw [List.getElem?_map, List.getElem?_map, hq]; rfl)
      have k0 := (HP1.out _ b2.out).at_.cell.1
      have HLK := look_run (HP1.out _ b2.out).inn.map q.s (by have := HL.out.2 q hmem; unfold maxLen; omega)
      rw [findP_of H.out.inn.srt hmem] at HLK
      unfold ptrOf Pf.at_ at HLK
      have HFI := Lib.hid (fun (W : World) (hb : Below w1.heap.size w1 W) => (HP1.out W hb).inn.file q hmem)
      have HCL := Lib.hid (fun (W : World) (hb : Below w1.heap.size w1 W) => clone_n q.d.a q.d.l q.d.l.length q.d.c W rfl (HFI.out W hb).row.lies (HL.out.1 q hmem))
      obtain ⟨xs, xh, ⟨xa, xc, xl⟩, xy⟩ := q
      simp only at HLK HFI HCL a0
      obtain ⟨m, hm2⟩ : ∃ m, xl.length = m := ⟨_, rfl⟩
      have HMM := Lib.hid hm2
      have HK : Hid (∀ W, Below w1.heap.size w1 W → W.cell? ⟨xh, 0, none⟩ = some (.slice xa m xc) ∧ W.cell? ⟨xh, 1, none⟩ = some (.int .i64 xy)) := Lib.hid (fun W hb => by
        have := (HFI.out W hb).at_.cell
        unfold Sl.val at this
        simp only [hm2] at this
        exact this)
      rw [hm2] at HCL
      obtain ⟨z0, z1⟩ := HK.out _ b2.out
      have CB := Lib.hid b2.out
      have CF := Lib.hid r2.out
      have CM := Lib.hid hm.out
      have WS : Hid (w1.heap.size ≤ wr.heap.size) := Lib.hid b2.out.size
      clear hq hmem hm2 hc
      go_upto_region 8 with fail
      clear k0 HLK a0
      go_region_held3 (fun W => W.cell? ⟨xh, 0, none⟩ = some (.slice xa m xc) ∧ W.cell? ⟨xh, 1, none⟩ = some (.int .i64 xy)) (first | exact HK.out _ CB.out | exact HK.out _ CB.out.drew | exact HK.out _ (CB.out.alloc CB.out.size _) | exact HK.out _ (CB.out.alloc CB.out.size _).drew | go_keep) (first
        | (go_at_call 42; refine (HCL.out _ (by first | exact CB.out | exact CB.out.drew)).mono ?_; rintro e w6 ⟨A6, c6, rfl, r6, b6⟩; have R6 := Lib.hid r6; have B6 : Hid (Below wr.heap.size wr w6) := Lib.hid ((by repeat (first | exact Below.refl _ _ | refine Below.drew ?_) : Below wr.heap.size wr _).trans b6); have CF := Lib.hid (own_kept CF.out B6.out (Nat.le_refl _)); have CM := Lib.hid (CM.out.kept B6.out (Nat.le_refl _)); have CB := Lib.hid (CB.out.trans (B6.out.mono WS.out)); clear r6 b6)
        | (refine step_append_frow _ (by rfl) (.tmp 22) (.tmp 34) (by rfl) w1.heap.size A2 c2 l' [⟨xs, ⟨A6, c6, xl⟩, xy⟩] _ k 1 1 (by simp [Act.eval]) (by simp [Act.eval]) hl2.out rfl (CF.out.alloc _) (lit_file3 _ xs A6 c6 xl xy m HMM.out) (by have := CB.out.size; simp; omega) (by have := hl2.out; simp; omega) ?_; intro A7 c7 w7 r7 b7 g7; have R7 := Lib.hid r7; have CM := Lib.hid (((CM.out.kept (below_new _ _) (Nat.le_refl _)).besideF (CF.out.alloc _) (by rw [hl2.out]; exact g7))); have CR := Lib.hid (((R6.out.kept (below_new _ _) (Nat.le_refl _)).besideF (CF.out.alloc _) (by rw [hl2.out]; exact g7))); have CB := Lib.hid ((CB.out.alloc CB.out.size _).trans b7); clear r7 b7 g7))
      all_goals
        go_wp2_with fail
        go_roundw
        case rel => exact ⟨k + 1, A7, c7, l' ++ [⟨xs, ⟨A6, c6, xl⟩, xy⟩], by omega, by go_num, rfl, Lib.hid (by rw [List.length_append, hl2.out]; rfl), Lib.hid (by rw [List.map_append, hr.out, List.take_add_one, HQ.out.1]; simp [Fl.rd, Pf.rd]), Lib.hid (CM.out.snoc (CR.out.mono WS.out)), Lib.hid R7.out, CB⟩
        case measure => simp [intOf]; omega
    · obtain rfl : k = n := by omega
      have hr' := hr.out
      rw [List.take_of_length_le (by have := HNN.out; omega)] at hr'
      have HR := Lib.hid hr'
      clear hr'
      go_wp2_with fail
      go_ret
      exact ⟨l', HR.out, hm.out.mono R1.out.2.size, A2, c2, vret_slice hl2.out, own_mono r2.out R1.out.2.size, R1.out.2.trans (b2.out.mono R1.out.2.size)⟩
end Go.Proofs.YtmgggddnfeojmaaGreat
