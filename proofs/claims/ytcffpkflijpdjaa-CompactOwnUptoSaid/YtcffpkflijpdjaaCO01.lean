/-
  The law: what is handed in stays; what is answered is new memory.
-/
import Derived.OrdersHeld
import Derived.Test.YtcffpkflijpdjaaCJ16
import Derived.Test.YtcffpkflijpdjaaCJ17
import Derived.Test.YtcffpkflijpdjaaCO00
set_option linter.unusedSimpArgs false
set_option linter.unusedVariables false
namespace Go.Proofs.Ytcffpkflijpdjaa
open Go.RowKit
theorem tins_byt {w : World} {T T' : List Ta} (he : trs T' = trs T) (h : TIns w T) : ∀ q ∈ T', Byt q.lo.l ∧ Byt q.hi.l := fun q hq => by
  have h1 : q.rd ∈ trs T' := List.mem_map_of_mem hq
  rw [he] at h1
  obtain ⟨p, hp, e⟩ := List.mem_map.1 h1
  simp only [Ta.rd, Prod.mk.injEq] at e
  obtain ⟨-, -, -, e4, e5⟩ := e
  have := h p hp
  rw [← e4, ← e5]
  exact ⟨this.1.byt, this.2.byt⟩
theorem ts_of {w u : World} {B A3 : Option Addr} {T T3 : List Ta} {nv cv c3 B3 : Nat} (h1 : trs T3 = trs T) (hT : TsIn w B T nv cv) (hm : TMades u B3 T3) (hr : Trow u B3 A3 c3 T3) : TsIn u A3 T3 nv c3 := by
  have hl : T3.length = nv := by rw [← trs_len, h1, trs_len, hT.len]
  exact ⟨hl, hr.lies, hm.ins (tins_byt h1 hT.ins), by have := (own_cap hr).1; rw [hl] at this; exact this, hT.few⟩
theorem TMades.kp {S : Nat → Prop} {W W' : World} {B : Nat} {T : List Ta} (h : TMades W B T) (hk : Kp S W W') (hS : ∀ g, B ≤ g → g < W.heap.size → S g) : TMades W' B T := fun q hq =>
  ⟨own_kp (h q hq).1 hk (fun ad ha => hS _ (own_in (h q hq).1 ad ha).1 (own_in (h q hq).1 ad ha).2), own_kp (h q hq).2 hk (fun ad ha => hS _ (own_in (h q hq).2 ad ha).1 (own_in (h q hq).2 ad ha).2)⟩
theorem set_ver {W : World} {g : Nat} {a v0 v1 v2 v3 : Value} {y0 y1 y2 : Value} {t : TypeId} (hz : W.heap[g]? = some (.cells #[a, y0, y1, y2] t (0, 0))) : ((((W.setCell ⟨g, 0, none⟩ v0).setCell ⟨g, 1, none⟩ v1).setCell ⟨g, 2, none⟩ v2).setCell ⟨g, 3, none⟩ v3).heap[g]? = some (.cells #[v0, v1, v2, v3] t (0, 0)) := set_four hz
/-- Marked blocks: the bytes of pieces. -/
def PcB (T : List Gl) (g : Nat) : Prop := ∃ p ∈ T, EnB p.l g
/-- Numbers that may be written over. -/
def IdW (W : World) (g m : Nat) : Prop := ∃ cs e fr, W.heap[g]? = some (.cells cs e fr) ∧ m ≤ cs.size ∧ ∀ j, j < m → W.frozen? ⟨g, j, none⟩ = false
theorem IdW.of {W : World} {g m : Nat} {S : List Int} (hm : S.length = m) (h0 : 0 < m) (h : Go.Sort.Holds (Value.int .i64) W g 0 S.toArray) : IdW W g m := by
  subst hm
  have h1 := (h 0 (by simpa using h0)).1
  rw [Nat.zero_add] at h1
  cases hh : W.heap[g]? with
  | none => unfold World.cell? at h1; simp only at h1; rw [hh] at h1; cases h1
  | some o =>
    cases o with
    | cells cs e fr =>
      refine ⟨cs, e, fr, hh, ?_, fun j hj => by have := (h j (by simpa using hj)).2; rwa [Nat.zero_add] at this⟩
      by_cases hlt : S.length ≤ cs.size
      · exact hlt
      · exfalso
        have h2 := (h (S.length - 1) (by simp; omega)).1
        rw [Nat.zero_add] at h2
        unfold World.cell? at h2
        simp only at h2
        rw [hh] at h2
        have h3 : cs[S.length - 1]? = none := Array.getElem?_eq_none (by omega)
        simp only [h3] at h2
        cases h2
    | _ => unfold World.cell? at h1; simp only at h1; rw [hh] at h1; cases h1
theorem IdW.put {W : World} {g m k : Nat} (h : IdW W g m) (hk : k < m) (v : Value) : (∃ u, W.cell? ⟨g, k, none⟩ = some u) ∧ W.frozen? ⟨g, k, none⟩ = false ∧ IdW (W.setCell ⟨g, k, none⟩ v) g m := by
  obtain ⟨cs, e, fr, hh, hm, hf⟩ := h
  refine ⟨⟨cs[k]'(by omega), by unfold World.cell?; simp only; rw [hh]; simp⟩, hf k hk, cs.setIfInBounds k v, e, fr, by simp [World.setCell, Array.getElem?_modify, hh], by simpa using hm, fun j hj => ?_⟩
  have h1 := hf j hj
  unfold World.frozen? at h1 ⊢
  simp only at h1 ⊢
  rw [hh] at h1
  have e2 : (W.setCell ⟨g, k, none⟩ v).heap[g]? = some (.cells (cs.setIfInBounds k v) e fr) := by simp [World.setCell, Array.getElem?_modify, hh]
  rw [e2]
  exact h1
theorem IdW.kp {S : Nat → Prop} {W W' : World} {g m : Nat} (h : IdW W g m) (hk : Kp S W W') (hg : S g) : IdW W' g m := by
  obtain ⟨cs, e, fr, hh, hm, hf⟩ := h
  refine ⟨cs, e, fr, (hk.block g hg).trans hh, hm, fun j hj => ?_⟩
  have h1 := hf j hj
  unfold World.frozen? at h1 ⊢
  simp only at h1 ⊢
  rw [hh] at h1
  rw [(hk.block g hg).trans hh]
  exact h1
theorem GMades.kp {S : Nat → Prop} {W W' : World} {B : Nat} {T : List Gl} (h : GMades W B T) (hk : Kp S W W') (hS : ∀ g, B ≤ g → g < W.heap.size → S g) : GMades W' B T := fun p hp =>
  ⟨own_kp (h p hp).1 hk (fun ad ha => hS _ (own_in (h p hp).1 ad ha).1 (own_in (h p hp).1 ad ha).2), fun q hq => ⟨own_kp ((h p hp).2 q hq).1 hk (fun ad ha => hS _ (own_in ((h p hp).2 q hq).1 ad ha).1 (own_in ((h p hp).2 q hq).1 ad ha).2), own_kp ((h p hp).2 q hq).2 hk (fun ad ha => hS _ (own_in ((h p hp).2 q hq).2 ad ha).1 (own_in ((h p hp).2 q hq).2 ad ha).2)⟩⟩
theorem Kp.and {S R : Nat → Prop} {w w1 w2 : World} (h : Kp S w w1) (k : Kp R w1 w2) : Kp (fun b => S b ∧ R b) w w2 :=
  ⟨k.os.trans h.os, k.tape.trans h.tape, k.output.trans h.output, Nat.le_trans h.size k.size, fun g hg => (k.block g hg.2).trans (h.block g hg.1)⟩
set_option maxRecDepth 100000 in
set_option maxHeartbeats 16000000 in
theorem lawOwnC (A : Option Addr) (Ls : List Gl) (n c : Nat) (B : Option Addr) (T : List Ta) (nv cv : Nat) (x1 x2 x3 m z : Int) (b : Bool) (w : World) (h : LF w A Ls n c) (hv : TsIn w B T nv cv) (hvl : ∀ q ∈ T, q.lo.l.length ≤ 140737488355328 ∧ q.hi.l.length ≤ 140737488355328) :
    Calls Try.prog 14 #[.slice A n c, .agg #[.slice B nv cv, .int .i64 x1, .int .i64 x2, .int .i64 x3], .agg #[.int .i64 m, .int .i64 z, .bool b]] w fun e w' => e = .returned (.bool true) ∧ Below w.heap.size w w' := by
  have HH := Lib.hid h
  have HT := Lib.hid (And.intro hv hvl)
  have hn9 := h.few
  clear h hv hvl
  obtain ⟨w0, hw0⟩ : ∃ w0, ((w.alloc (.cells #[.slice B nv cv, .int .i64 x1, .int .i64 x2, .int .i64 x3] 82)).alloc (.cells #[.int .i64 m, .int .i64 z, .bool b] 72)) = w0 := ⟨_, rfl⟩
  have B0 : Hid (Below w.heap.size w w0) := Lib.hid (hw0 ▸ (below_new w _).alloc (by simp) _)
  have HS0 : Hid (w0.heap.size = w.heap.size + 2) := Lib.hid (by rw [← hw0]; simp)
  have HC : Hid (∀ W, Below w0.heap.size w0 W → (W.cell? ⟨w.heap.size, 0, none⟩ = some (.slice B nv cv) ∧ W.cell? ⟨w.heap.size, 1, none⟩ = some (.int .i64 x1) ∧ W.cell? ⟨w.heap.size, 2, none⟩ = some (.int .i64 x2) ∧ W.cell? ⟨w.heap.size, 3, none⟩ = some (.int .i64 x3)) ∧ W.cell? ⟨w.heap.size + 1, 0, none⟩ = some (.int .i64 m) ∧ W.cell? ⟨w.heap.size + 1, 1, none⟩ = some (.int .i64 z) ∧ W.cell? ⟨w.heap.size + 1, 2, none⟩ = some (.bool b)) := Lib.hid (fun W hb => by
    have s1 : w0.heap.size = w.heap.size + 2 := by rw [← hw0]; simp
    have e1 := (RowKit.Below.heap_alloc (w.alloc (.cells #[.slice B nv cv, .int .i64 x1, .int .i64 x2, .int .i64 x3] 82)) (.cells #[.int .i64 m, .int .i64 z, .bool b] 72) w.heap.size (by simp)).trans (heap_alloc_new w _)
    have e2 := heap_alloc_new (w.alloc (.cells #[.slice B nv cv, .int .i64 x1, .int .i64 x2, .int .i64 x3] 82)) (.cells #[.int .i64 m, .int .i64 z, .bool b] 72)
    rw [hw0] at e1 e2
    rw [World.size_alloc] at e2
    exact ⟨box_four ((hb.block _ (by omega)).trans e1), box_three ((hb.block _ (by omega)).trans e2)⟩)
  go_enter Try.func14, Try.ntmps14
  go_upto_region 1 with fail
  try rw [hw0]
  clear hw0
  go_upto_region 3 with (go_at_call 37; refine (wakesC_any _).mono ?_; rintro e w1 ⟨rfl, hb⟩; have B1 : Hid (Below w0.heap.size w0 w1) := Lib.hid hb; clear hb)
  have RR := B1
  have HLI : Hid (∀ W, Below w0.heap.size w0 W → Calls Try.prog 41 #[.slice A n c] W fun e w' => ∃ (T : List Gl) (A' : Option Addr) (c' : Nat), e = .returned (.slice A' n c') ∧ Hid (fl T = fl Ls ∧ LF w' A' T n c' ∧ Below W.heap.size W w' ∧ GMades w' W.heap.size T ∧ Grow w' W.heap.size A' c' T)) := Lib.hid (fun W hb => (listsC_lf (HH.out.kept (below_then B0.out hb))).mono fun e w' hc => by
    obtain ⟨T, A', c', h1, h2, h3, h4, h5, h6⟩ := hc
    exact ⟨T, A', c', h1, Lib.hid ⟨h2, h3, h6, h4, h5⟩⟩)
  have HCV : Hid (∀ W, Below w0.heap.size w0 W → Calls Try.prog 44 #[.agg #[.slice B nv cv, .int .i64 x1, .int .i64 x2, .int .i64 x3]] W fun e w' => ∃ (T' : List Ta) (A' : Option Addr) (c' : Nat), e = .returned (.agg #[.slice A' nv c', .int .i64 x1, .int .i64 x2, .int .i64 x3]) ∧ Hid (trs T' = trs T ∧ TMades w' W.heap.size T' ∧ Below W.heap.size W w' ∧ Trow w' W.heap.size A' c' T')) := Lib.hid (fun W hb => (copyV_any B T nv cv x1 x2 x3 W (HT.out.1.kept (below_then B0.out hb)) HT.out.2).mono fun e w' hc => by
    obtain ⟨T', A', c', h1, h2, h3, h4, h5⟩ := hc
    exact ⟨T', A', c', h2, Lib.hid ⟨h1, h3, h5, h4⟩⟩)
  go_cut [7, 8] from 26 to 29 (fun t7 t8 wx => ∃ (T2 : List Gl) (A2 : Option Addr) (c2 : Nat) (T3 : List Ta) (A3 : Option Addr) (c3 g8 : Nat), t7 = .slice A2 n c2 ∧ t8 = .pointer (some ⟨g8, 0, none⟩) ∧ Hid ((fl T2 = fl Ls ∧ LF wx A2 T2 n c2) ∧ (trs T3 = trs T ∧ TsIn wx A3 T3 nv c3) ∧ wx.heap[g8]? = some (.cells #[.slice A3 nv c3, .int .i64 x1, .int .i64 x2, .int .i64 x3] 82 (0, 0)) ∧ Below w0.heap.size w0 wx))
  case first =>
    go_region_held3 (fun W => W.cell? ⟨w.heap.size, 0, none⟩ = some (.slice B nv cv) ∧ W.cell? ⟨w.heap.size, 1, none⟩ = some (.int .i64 x1) ∧ W.cell? ⟨w.heap.size, 2, none⟩ = some (.int .i64 x2) ∧ W.cell? ⟨w.heap.size, 3, none⟩ = some (.int .i64 x3)) (first | exact (HC.out _ RR.out).1 | exact (HC.out _ RR.out.drew).1 | (refine (HC.out _ ?_).1; (repeat (first | with_reducible exact RR.out | with_reducible exact Below.refl _ _ | with_reducible refine Below.drew ?_ | with_reducible refine below_al ?_ _)); done) | go_keep | (refine ⟨?_, ?_, ?_, ?_⟩ <;> (rw [cell_far (by have := HN8.out; simp; omega), cell_far (by have := HN8.out; simp; omega), cell_far (by have := HN8.out; simp; omega), cell_far (by have := HN8.out; simp; omega)]; first | exact (HC.out _ RR.out).1.1 | exact (HC.out _ RR.out).1.2.1 | exact (HC.out _ RR.out).1.2.2.1 | exact (HC.out _ RR.out).1.2.2.2))) (first
      | (go_at_call 41; refine (HLI.out _ (by repeat (first | with_reducible exact RR.out | with_reducible exact Below.refl _ _ | with_reducible refine Below.drew ?_ | with_reducible refine below_al ?_ _))).mono ?_; rintro e w2 ⟨T2, A2, c2, rfl, E2⟩; have RR : Hid (Below w0.heap.size w0 w2) := Lib.hid (below_then (by repeat (first | with_reducible exact RR.out | with_reducible exact Below.refl _ _ | with_reducible refine Below.drew ?_ | with_reducible refine below_al ?_ _)) E2.out.2.2.1); have RR2 := RR; first | (have hz : w2.heap[w1.heap.size]? = some (.cells #[.slice none 0 0, .int .i64 0, .int .i64 0, .int .i64 0] 82 (0, 0)) := (E2.out.2.2.1.block w1.heap.size (by simp)).trans (heap_alloc_new w1 _); have HZ1 := Lib.hid hz; clear hz) | skip)
      | (go_at_call 44; refine (HCV.out _ (by repeat (first | with_reducible exact RR.out | with_reducible exact Below.refl _ _ | with_reducible refine Below.drew ?_ | with_reducible refine below_al ?_ _))).mono ?_; rintro e w3 ⟨T3, A3, c3, rfl, E3⟩; have B23 : Hid (Below w2.heap.size w2 w3) := Lib.hid (below_then (by repeat (first | with_reducible exact Below.refl _ _ | with_reducible refine Below.drew ?_ | with_reducible refine below_al ?_ _)) E3.out.2.2.1); have RR : Hid (Below w0.heap.size w0 w3) := Lib.hid (below_then (by repeat (first | with_reducible exact RR.out | with_reducible exact Below.refl _ _ | with_reducible refine Below.drew ?_ | with_reducible refine below_al ?_ _)) E3.out.2.2.1); first | (have hz : w3.heap[w2.heap.size]? = some (.cells #[.slice none 0 0, .int .i64 0, .int .i64 0, .int .i64 0] 82 (0, 0)) := (E3.out.2.2.1.block w2.heap.size (by simp)).trans (heap_alloc_new w2 _); obtain ⟨y0, y1, y2, y3⟩ := box_four hz; have f0 := froz w3 w2.heap.size 0 _ _ hz; have f1 := froz w3 w2.heap.size 1 _ _ hz; have f2 := froz w3 w2.heap.size 2 _ _ hz; have f3 := froz w3 w2.heap.size 3 _ _ hz; have HZ8 := Lib.hid hz; clear hz) | (have hz : w3.heap[w1.heap.size]? = some (.cells #[.slice none 0 0, .int .i64 0, .int .i64 0, .int .i64 0] 82 (0, 0)) := (E3.out.2.2.1.block w1.heap.size (Array.getElem?_eq_some_iff.1 HZ1.out).1).trans HZ1.out; obtain ⟨y0, y1, y2, y3⟩ := box_four hz; have f0 := froz w3 w1.heap.size 0 _ _ hz; have f1 := froz w3 w1.heap.size 1 _ _ hz; have f2 := froz w3 w1.heap.size 2 _ _ hz; have f3 := froz w3 w1.heap.size 3 _ _ hz; have HZ8 := Lib.hid hz; clear hz) | skip); have HN8 : Hid (w.heap.size < w1.heap.size ∧ w.heap.size < w2.heap.size) := Lib.hid (by have h1 := RR2.out.size; have h2 := HS0.out; have h3 := B1.out.size; omega))
    all_goals
      go_wp2_with fail
      go_meet
    · have ho := heap_alloc_new w3 (.cells #[.slice A3 nv c3, .int .i64 x1, .int .i64 x2, .int .i64 x3] 82)
      exact ⟨T2, A2, c2, T3, A3, c3, w3.heap.size, rfl, rfl, Lib.hid ⟨⟨E2.out.1, E2.out.2.1.kept (below_then B23.out (by repeat (first | with_reducible exact Below.refl _ _ | with_reducible refine Below.drew ?_ | with_reducible refine below_al ?_ _)))⟩, ⟨E3.out.1, (ts_of E3.out.1 HT.out.1 E3.out.2.1 E3.out.2.2.2).kept (by repeat (first | with_reducible exact Below.refl _ _ | with_reducible refine Below.drew ?_ | with_reducible refine below_al ?_ _))⟩, ho, below_then RR.out (by repeat (first | with_reducible exact Below.refl _ _ | with_reducible refine Below.drew ?_ | with_reducible refine below_al ?_ _))⟩⟩
    · have kk := (((((Kp.refl (fun j => j ≠ w2.heap.size) w3).set w2.heap.size 0 (.slice A3 nv c3) (by simp)).set w2.heap.size 1 (.int .i64 x1) (by simp)).set w2.heap.size 2 (.int .i64 x2) (by simp)).set w2.heap.size 3 (.int .i64 x3) (by simp))
      have k2 := (((((Kp.of_below B23.out).set w2.heap.size 0 (.slice A3 nv c3) (by omega)).set w2.heap.size 1 (.int .i64 x1) (by omega)).set w2.heap.size 2 (.int .i64 x2) (by omega)).set w2.heap.size 3 (.int .i64 x3) (by omega))
      have kb := (((((Kp.of_below RR.out).set w2.heap.size 0 (.slice A3 nv c3) (by have := RR2.out.size; omega)).set w2.heap.size 1 (.int .i64 x1) (by have := RR2.out.size; omega)).set w2.heap.size 2 (.int .i64 x2) (by have := RR2.out.size; omega)).set w2.heap.size 3 (.int .i64 x3) (by have := RR2.out.size; omega)).below (fun _ h => h)
      exact ⟨T2, A2, c2, T3, A3, c3, w2.heap.size, rfl, rfl, Lib.hid ⟨⟨E2.out.1, E2.out.2.1.kept (k2.below (fun _ h => h))⟩, ⟨E3.out.1, ts_of E3.out.1 HT.out.1 (E3.out.2.1.kp kk (fun g hg _ => by first | omega | (simp at hg; omega))) (own_kp E3.out.2.2.2 kk (fun ad ha => by have := (own_in E3.out.2.2.2 ad ha).1; first | omega | (simp at this; omega)))⟩, set_ver HZ8.out, kb⟩⟩
    · have hlt : w1.heap.size < w2.heap.size := (Array.getElem?_eq_some_iff.1 HZ1.out).1
      have kk := (((((Kp.refl (fun j => j ≠ w1.heap.size) w3).set w1.heap.size 0 (.slice A3 nv c3) (by simp)).set w1.heap.size 1 (.int .i64 x1) (by simp)).set w1.heap.size 2 (.int .i64 x2) (by simp)).set w1.heap.size 3 (.int .i64 x3) (by simp))
      have kb := (((((Kp.of_below RR.out).set w1.heap.size 0 (.slice A3 nv c3) (by have := B1.out.size; omega)).set w1.heap.size 1 (.int .i64 x1) (by have := B1.out.size; omega)).set w1.heap.size 2 (.int .i64 x2) (by have := B1.out.size; omega)).set w1.heap.size 3 (.int .i64 x3) (by have := B1.out.size; omega)).below (fun _ h => h)
      have g2 := (E2.out.2.2.2.1.kept B23.out (Nat.le_refl _)).kp kk (fun g hg _ => by first | omega | (simp at hg; omega))
      have r2 := own_kp (E2.out.2.2.2.2.kept B23.out (Nat.le_refl _)) kk (fun ad ha => by have := (own_in (E2.out.2.2.2.2.kept B23.out (Nat.le_refl _)) ad ha).1; first | omega | (simp at this; omega))
      exact ⟨T2, A2, c2, T3, A3, c3, w1.heap.size, rfl, rfl, Lib.hid ⟨⟨E2.out.1, E2.out.2.1.made (.inl (List.Sublist.refl _)) E2.out.2.1.ls.len E2.out.2.1.few (Grow.lies r2) g2⟩, ⟨E3.out.1, ts_of E3.out.1 HT.out.1 (E3.out.2.1.kp kk (fun g hg _ => by first | omega | (simp at hg; omega))) (own_kp E3.out.2.2.2 kk (fun ad ha => by have := (own_in E3.out.2.2.2 ad ha).1; first | omega | (simp at this; omega)))⟩, set_ver HZ8.out, kb⟩⟩
  case rest =>
    obtain ⟨T2, A2, c2, T3, A3, c3, g8, rfl, rfl, E4⟩ := hcut
    obtain ⟨q0, q1, q2⟩ := (HC.out wc E4.out.2.2.2).2
    go_upto_region 5 with (go_at_call 40; refine (run_m m z b E4.out.1.2 E4.out.1.1).mono ?_; rintro e w5 ⟨T5, A5, j5, c5, er5, rfl, h1, h2, h3, h4, h5⟩; have E5 : Hid (T5.length = j5 ∧ RunAns (fl Ls) z m b er5 (fl T5) ∧ GMades w5 wc.heap.size T5 ∧ Grow w5 wc.heap.size A5 c5 T5 ∧ Below wc.heap.size wc w5) := Lib.hid ⟨h1, h2, h3, h4, h5⟩; clear h1 h2 h3 h4 h5)
    clear q0 q1 q2
    obtain ⟨q0, q1, q2⟩ := (HC.out w5 (below_then E4.out.2.2.2 E5.out.2.2.2.2)).2
    go_upto_region 6 with (go_at_call 40; refine (run_m m z b (E4.out.1.2.kept E5.out.2.2.2.2) E4.out.1.1).mono ?_; rintro e w6 ⟨T6, A6, j6, c6, er6, rfl, h1, h2, h3, h4, h5⟩; have E6 : Hid (T6.length = j6 ∧ RunAns (fl Ls) z m b er6 (fl T6) ∧ GMades w6 w5.heap.size T6 ∧ Grow w6 w5.heap.size A6 c6 T6 ∧ Below w5.heap.size w5 w6) := Lib.hid ⟨h1, h2, h3, h4, h5⟩; clear h1 h2 h3 h4 h5)
    clear q0 q1 q2
    have BC6 : Hid (Below wc.heap.size wc w6) := Lib.hid (below_then E5.out.2.2.2.2 E6.out.2.2.2.2)
    have H8 : Hid (∀ W, Below wc.heap.size wc W → W.cell? ⟨g8, 0, none⟩ = some (.slice A3 nv c3) ∧ W.cell? ⟨g8, 1, none⟩ = some (.int .i64 x1) ∧ W.cell? ⟨g8, 2, none⟩ = some (.int .i64 x2) ∧ W.cell? ⟨g8, 3, none⟩ = some (.int .i64 x3)) := Lib.hid (fun W hb => box_four ((hb.block g8 (Array.getElem?_eq_some_iff.1 E4.out.2.2.1).1).trans E4.out.2.2.1))
    obtain ⟨q0, q1, q2, q3⟩ := H8.out w6 BC6.out
    go_upto_region 7 with (go_at_call 45; refine (pick2_any A3 T3 nv c3 x1 x2 x3 2 w6 (E4.out.2.1.2.kept BC6.out)).mono ?_; rintro e w7 ⟨A7, m7, c7, lev, ok, SS, rfl, ⟨p1, p2, p3⟩, hb, -⟩; have E7 : Hid ((m7 = 0 ∨ ∃ g, A7 = some ⟨g, 0, none⟩ ∧ w6.heap.size ≤ g ∧ g < w7.heap.size ∧ IdW w7 g m7) ∧ Below w6.heap.size w6 w7) := Lib.hid ⟨by
        rcases Nat.eq_zero_or_pos m7 with h0 | h0
        · exact .inl h0
        · obtain ⟨g, e1, e2, e3, e4⟩ := p3.resolve_left (by omega)
          exact .inr ⟨g, e1, e2, e3, IdW.of p1 h0 e4⟩, hb⟩; have hm9 := p2; clear p1 p2 p3 hb)
    clear q0 q1 q2 q3
    obtain ⟨Z, hZ⟩ : ∃ Z : Nat → Prop, Z = PcB T5 := ⟨_, rfl⟩
    have BC7 : Hid (Below wc.heap.size wc w7) := Lib.hid (below_then BC6.out E7.out.2)
    have B57 : Hid (Below w5.heap.size w5 w7) := Lib.hid (below_then E6.out.2.2.2.2 E7.out.2)
    have K5 : Hid (GMades w7 wc.heap.size T5 ∧ Grow w7 wc.heap.size A5 c5 T5) := Lib.hid ⟨E5.out.2.2.1.kept B57.out (Nat.le_refl _), E5.out.2.2.2.1.kept B57.out (Nat.le_refl _)⟩
    have K6 : Hid (GMades w7 w5.heap.size T6 ∧ Grow w7 w5.heap.size A6 c6 T6) := Lib.hid ⟨E6.out.2.2.1.kept E7.out.2 (Nat.le_refl _), E6.out.2.2.2.1.kept E7.out.2 (Nat.le_refl _)⟩
    have HZR : Hid (∀ g, Z g → wc.heap.size ≤ g ∧ g < w5.heap.size) := Lib.hid (fun g hg => by
      subst hZ
      obtain ⟨p, hp, hg⟩ := hg
      have := enB_u8 (E5.out.2.2.1 p hp).2 hg
      exact ⟨this.1, this.2.1⟩)
    have HZS : Hid (Zs Z w7 wc.heap.size w5.heap.size w7.heap.size) := Lib.hid ⟨fun g hg => by
      subst hZ
      obtain ⟨p, hp, hg⟩ := hg
      exact (enB_u8 (K5.out.1 p hp).2 hg).2.2, fun g hg => .inl (HZR.out g hg)⟩
    have HSP : Hid (∀ p ∈ T5, ∀ q ∈ p.l, SpotZ Z w7 q.k.a q.k.l.length ∧ SpotZ Z w7 q.v.a q.v.l.length) := Lib.hid (fun p hp q hq => by
      have h1 := (K5.out.1 p hp).2 q hq
      exact ⟨h1.1.spotZ (fun g hg => by subst hZ; exact ⟨p, hp, q, hq, .inl hg⟩), h1.2.spotZ (fun g hg => by subst hZ; exact ⟨p, hp, q, hq, .inr hg⟩)⟩)
    have HRUN := Lib.hid (runAns_mem E5.out.2.1)
    have HTOT : Hid ((fl Ls).flatten.length * 64 ≤ 140737488351232) := Lib.hid (by rw [flat_fl]; exact HH.out.tot)
    have HLNG : Hid (∀ p ∈ T5, p.l.length * 64 ≤ 140737488351232 ∧ ∀ q ∈ p.l, q.k.l.length ≤ 140737488351232 ∧ q.v.l.length ≤ 140737488351232) := Lib.hid (fun p hp => by
      have hs := (List.sublist_flatten_of_mem (List.mem_map_of_mem (f := fun g : Gl => ers g.l) hp))
      refine ⟨?_, fun q hq => ?_⟩
      · have h1 := hs.length_le
        rw [ers_len] at h1
        have h2 := HRUN.out.2
        have h3 := HTOT.out
        have e : (fl T5).flatten = (T5.map fun g : Gl => ers g.l).flatten := rfl
        rw [e] at h2
        omega
      · have h1 : q.rd ∈ (fl T5).flatten := hs.subset (List.mem_map_of_mem hq)
        have h2 := HRUN.out.1 _ h1
        rw [flat_fl] at h2
        exact HH.out.long _ h2)
    have hj9 : j5 * 64 ≤ 140737488351232 := by
      have h1 := runAns_few E5.out.2.1
      rw [fl_length, E5.out.1] at h1
      have h3 := HTOT.out
      omega
    clear hZ
    go_wp2_with fail
    go_loopw [60] (fun t60 wr => ∃ i : Nat, i ≤ j5 ∧ t60 = .int .i64 i ∧ Hid (Mz Z w7 wr)) (fun t60 _ => j5 - (intOf t60).toNat)
    case atStart => exact ⟨0, by omega, rfl, Lib.hid (Mz.refl _ _)⟩
    case round =>
      obtain ⟨i, hi, rfl, hr⟩ := hrel
      by_cases hlt : i < j5
      · have hq := List.getElem?_eq_getElem (l := T5) (i := i) (by have := E5.out.1; omega)
        generalize T5[i]'(by have := E5.out.1; omega) = p at hq
        have hmem := List.mem_of_getElem? hq
        obtain ⟨gn, hgn⟩ : ∃ m, p.l.length = m := ⟨_, rfl⟩
        obtain ⟨gc, hgc⟩ : ∃ m, p.c = m := ⟨_, rfl⟩
        have HGN := Lib.hid hgn
        have HPR : Hid (∀ W, Mz Z w7 W → Lies W p.a (evals p.l)) := Lib.hid (fun W hm => Erow.lies (HZS.out.row hm.kp (K5.out.1 p hmem).1 (by decide)))
        obtain ⟨ax, rfl, -⟩ := take_gvals (Grow.lies K5.out.2) hq
        have HPX : Hid (∀ W, Mz Z w7 W → W.cell? (ax.add i) = some (.slice p.a gn gc)) := Lib.hid (fun W hm => by
          obtain ⟨ad', e, h1⟩ := take_gvals (Grow.lies (HZS.out.row hm.kp K5.out.2 (by decide))) hq
          injection e with e
          subst e
          unfold Gl.val at h1
          rwa [hgn, hgc] at h1)
        have HSPP := Lib.hid (HSP.out p hmem)
        have HLGP := Lib.hid (HLNG.out p hmem)
        have i0 : (i : Int) < j5 := by omega
        have gn9 : gn * 64 ≤ 140737488351232 := by have := HLGP.out.1; rw [hgn] at this; exact this
        clear hq hmem hgn hgc
        generalize wr = wi at hr ⊢
        have a0 := HPX.out wi hr.out
        go_wp2_with fail
        go_loopw [68] (fun t68 wr => ∃ k : Nat, k ≤ gn ∧ t68 = .int .i64 k ∧ Hid (Mz Z w7 wr)) (fun t68 _ => gn - (intOf t68).toNat)
        case atStart => exact ⟨0, by omega, rfl, hr⟩
        case round =>
          obtain ⟨k, hk, rfl, hmm⟩ := hrel
          by_cases hltk : k < gn
          · have hq := List.getElem?_eq_getElem (l := p.l) (i := k) (by have := HGN.out; omega)
            generalize p.l[k]'(by have := HGN.out; omega) = q at hq
            obtain ⟨ag, hag, -⟩ := lies_entry (HPR.out wr hmm.out) hq
            have hb9 := HLGP.out.2 q (List.mem_of_getElem? hq)
            have hsp := HSPP.out q (List.mem_of_getElem? hq)
            have HPC : Hid (∀ W, Mz Z w7 W → W.cell? (ax.add i) = some (.slice (some ag) gn gc)) := Lib.hid (fun W hm => hag ▸ HPX.out W hm)
            have HRA : Hid (∀ W, Mz Z w7 W → Lies W (some ag) (evals p.l)) := Lib.hid (fun W hm => hag ▸ HPR.out W hm)
            have HQ := Lib.hid hq
            obtain ⟨⟨ka, kc, kl⟩, qs, qd, ⟨va, vc, vl⟩⟩ := q
            obtain ⟨km, hkm⟩ : ∃ m, kl.length = m := ⟨_, rfl⟩
            obtain ⟨vm, hvm⟩ : ∃ m, vl.length = m := ⟨_, rfl⟩
            simp only [hkm, hvm] at hb9 hsp
            have HMZ := Lib.hid (And.intro hkm hvm)
            have HROW : Hid (∀ W, Mz Z w7 W → W.cell? (ag.add (k * 4)) = some (.slice ka km kc) ∧ W.cell? ⟨(ag.add (k * 4)).block, (ag.add (k * 4)).off + 3, none⟩ = some (.slice va vm vc)) := Lib.hid (fun W hm => by
              have h1 := lies_entry_at (HRA.out W hm) HQ.out
              unfold AtE at h1
              simp only [HMZ.out.1, HMZ.out.2] at h1
              exact ⟨h1.1, h1.2.2.2⟩)
            have HSPQ := Lib.hid hsp
            obtain ⟨km9, vm9⟩ := hb9
            have k0 : (k : Int) < gn := by omega
            clear hq hkm hvm hsp hag a0
            generalize wr = wk at hmm ⊢
            obtain ⟨p0, ⟨p1, p2⟩⟩ := And.intro (HPC.out wk hmm.out) (HROW.out wk hmm.out)
            go_wp2_with fail
            go_loopw [80] (fun t wr => ∃ q : Nat, q ≤ km ∧ t = .int .i64 q ∧ Hid (Mz Z w7 wr)) (fun t _ => km - (intOf t).toNat)
            case atStart => exact ⟨0, by omega, rfl, hmm⟩
            case round =>
              obtain ⟨q, hq, rfl, hmk⟩ := hrel
              obtain ⟨p0, ⟨p1, p2⟩⟩ := And.intro (HPC.out wr hmk.out) (HROW.out wr hmk.out)
              by_cases hltq : q < km
              · obtain ⟨gx, v, e, d0, f0, hset⟩ := hmk.out.mark HSPQ.out.1 (k := q) hltq
                subst e
                have HSET := Lib.hid hset
                have HCEL : Hid (∀ W, Mz Z w7 W → W.cell? (ax.add i) = some (.slice (some ag) gn gc) ∧ W.cell? (ag.add (k * 4)) = some (.slice (some ⟨gx, 0, none⟩) km kc)) := Lib.hid (fun W hm => ⟨HPC.out W hm, (HROW.out W hm).1⟩)
                have i1 : (q : Int) < km := by omega
                clear hset
                go_upto_region 16 with fail
                have HSC : Hid (∀ y, (fun W : World => W.cell? (ax.add i) = some (.slice (some ag) gn gc) ∧ W.cell? (ag.add (k * 4)) = some (.slice (some ⟨gx, 0, none⟩) km kc)) (wr.setCell ⟨gx, q, none⟩ (.int .u8 y)).drew) := Lib.hid (fun y => HCEL.out _ (HSET.out y).drew)
                refine wp_region_noPanic ?_
                refine wp_region_held (S := fun W => W.cell? (ax.add i) = some (.slice (some ag) gn gc) ∧ W.cell? (ag.add (k * 4)) = some (.slice (some ⟨gx, 0, none⟩) km kc)) (by kernel_rfl) ?_
                change wpAnyH _ _ _ _ _ _ _ _ (World.drew _)
                have s0 : (fun W : World => W.cell? (ax.add i) = some (.slice (some ag) gn gc) ∧ W.cell? (ag.add (k * 4)) = some (.slice (some ⟨gx, 0, none⟩) km kc)) wr.drew := HCEL.out _ hmk.out.drew
                refine wpAnyH_take (i := 0) (v := .slice (some ax) j5 c5) rfl (by kernel_rfl) (by kernel_rfl) (by kernel_rfl) (fun _ _ _ h => h) (Or.inl ⟨by first | kernel_rfl | rfl, fun _ hS => by go_simp⟩) s0 ?_
                try simp only [Act.put, List.getElem_toArray, List.getElem_cons_zero, List.getElem_cons_succ, List.setIfInBounds_toArray, List.set_cons_zero, List.set_cons_succ]
                refine wpAnyH_take (i := 1) (v := .int .i64 (i : Int)) rfl (by kernel_rfl) (by kernel_rfl) (by kernel_rfl) (fun _ _ _ h => h) (Or.inl ⟨by first | kernel_rfl | rfl, fun _ hS => by go_simp⟩) s0 ?_
                try simp only [Act.put, List.getElem_toArray, List.getElem_cons_zero, List.getElem_cons_succ, List.setIfInBounds_toArray, List.set_cons_zero, List.set_cons_succ]
                refine wpAnyH_take (i := 2) (v := .pointer (some (ax.add i))) rfl (by kernel_rfl) (by kernel_rfl) (by kernel_rfl) (fun _ _ _ h => h) (Or.inl ⟨by first | kernel_rfl | rfl, fun _ hS => by go_simp⟩) s0 ?_
                try simp only [Act.put, List.getElem_toArray, List.getElem_cons_zero, List.getElem_cons_succ, List.setIfInBounds_toArray, List.set_cons_zero, List.set_cons_succ]
                refine wpAnyH_take (i := 3) (v := .slice (some ag) gn gc) rfl (by kernel_rfl) (by kernel_rfl) (by kernel_rfl) (fun _ _ _ h => h) (Or.inl ⟨by first | kernel_rfl | rfl, fun _ hS => by obtain ⟨k1, k2⟩ := hS; go_simp⟩) s0 ?_
                try simp only [Act.put, List.getElem_toArray, List.getElem_cons_zero, List.getElem_cons_succ, List.setIfInBounds_toArray, List.set_cons_zero, List.set_cons_succ]
                refine wpAnyH_take (i := 4) (v := .int .i64 (k : Int)) rfl (by kernel_rfl) (by kernel_rfl) (by kernel_rfl) (fun _ _ _ h => h) (Or.inl ⟨by first | kernel_rfl | rfl, fun _ hS => by go_simp⟩) s0 ?_
                try simp only [Act.put, List.getElem_toArray, List.getElem_cons_zero, List.getElem_cons_succ, List.setIfInBounds_toArray, List.set_cons_zero, List.set_cons_succ]
                refine wpAnyH_take (i := 5) (v := .pointer (some (ag.add (k * 4)))) rfl (by kernel_rfl) (by kernel_rfl) (by kernel_rfl) (fun _ _ _ h => h) (Or.inl ⟨by first | kernel_rfl | rfl, fun _ hS => by go_simp⟩) s0 ?_
                try simp only [Act.put, List.getElem_toArray, List.getElem_cons_zero, List.getElem_cons_succ, List.setIfInBounds_toArray, List.set_cons_zero, List.set_cons_succ]
                refine wpAnyH_take (i := 6) (v := .pointer (some (ag.add (k * 4)))) rfl (by kernel_rfl) (by kernel_rfl) (by kernel_rfl) (fun _ _ _ h => h) (Or.inl ⟨by first | kernel_rfl | rfl, fun _ hS => by go_simp⟩) s0 ?_
                try simp only [Act.put, List.getElem_toArray, List.getElem_cons_zero, List.getElem_cons_succ, List.setIfInBounds_toArray, List.set_cons_zero, List.set_cons_succ]
                refine wpAnyH_take (i := 7) (v := .slice (some ⟨gx, 0, none⟩) km kc) rfl (by kernel_rfl) (by kernel_rfl) (by kernel_rfl) (fun _ _ _ h => h) (Or.inl ⟨by first | kernel_rfl | rfl, fun _ hS => by obtain ⟨k1, k2⟩ := hS; go_simp⟩) s0 ?_
                try simp only [Act.put, List.getElem_toArray, List.getElem_cons_zero, List.getElem_cons_succ, List.setIfInBounds_toArray, List.set_cons_zero, List.set_cons_succ]
                refine wpAnyH_take (i := 8) (v := .int .i64 (q : Int)) rfl (by kernel_rfl) (by kernel_rfl) (by kernel_rfl) (fun _ _ _ h => h) (Or.inl ⟨by first | kernel_rfl | rfl, fun _ hS => by go_simp⟩) s0 ?_
                try simp only [Act.put, List.getElem_toArray, List.getElem_cons_zero, List.getElem_cons_succ, List.setIfInBounds_toArray, List.set_cons_zero, List.set_cons_succ]
                refine wpAnyH_take (i := 9) (v := .slice (some ax) j5 c5) rfl (by kernel_rfl) (by kernel_rfl) (by kernel_rfl) (fun _ _ _ h => h) (Or.inl ⟨by first | kernel_rfl | rfl, fun _ hS => by go_simp⟩) s0 ?_
                try simp only [Act.put, List.getElem_toArray, List.getElem_cons_zero, List.getElem_cons_succ, List.setIfInBounds_toArray, List.set_cons_zero, List.set_cons_succ]
                refine wpAnyH_take (i := 10) (v := .int .i64 (i : Int)) rfl (by kernel_rfl) (by kernel_rfl) (by kernel_rfl) (fun _ _ _ h => h) (Or.inl ⟨by first | kernel_rfl | rfl, fun _ hS => by go_simp⟩) s0 ?_
                try simp only [Act.put, List.getElem_toArray, List.getElem_cons_zero, List.getElem_cons_succ, List.setIfInBounds_toArray, List.set_cons_zero, List.set_cons_succ]
                refine wpAnyH_take (i := 11) (v := .pointer (some (ax.add i))) rfl (by kernel_rfl) (by kernel_rfl) (by kernel_rfl) (fun _ _ _ h => h) (Or.inl ⟨by first | kernel_rfl | rfl, fun _ hS => by go_simp⟩) s0 ?_
                try simp only [Act.put, List.getElem_toArray, List.getElem_cons_zero, List.getElem_cons_succ, List.setIfInBounds_toArray, List.set_cons_zero, List.set_cons_succ]
                refine wpAnyH_take (i := 12) (v := .slice (some ag) gn gc) rfl (by kernel_rfl) (by kernel_rfl) (by kernel_rfl) (fun _ _ _ h => h) (Or.inl ⟨by first | kernel_rfl | rfl, fun _ hS => by obtain ⟨k1, k2⟩ := hS; go_simp⟩) s0 ?_
                try simp only [Act.put, List.getElem_toArray, List.getElem_cons_zero, List.getElem_cons_succ, List.setIfInBounds_toArray, List.set_cons_zero, List.set_cons_succ]
                refine wpAnyH_take (i := 13) (v := .int .i64 (k : Int)) rfl (by kernel_rfl) (by kernel_rfl) (by kernel_rfl) (fun _ _ _ h => h) (Or.inl ⟨by first | kernel_rfl | rfl, fun _ hS => by go_simp⟩) s0 ?_
                try simp only [Act.put, List.getElem_toArray, List.getElem_cons_zero, List.getElem_cons_succ, List.setIfInBounds_toArray, List.set_cons_zero, List.set_cons_succ]
                refine wpAnyH_take (i := 14) (v := .pointer (some (ag.add (k * 4)))) rfl (by kernel_rfl) (by kernel_rfl) (by kernel_rfl) (fun _ _ _ h => h) (Or.inl ⟨by first | kernel_rfl | rfl, fun _ hS => by go_simp⟩) s0 ?_
                try simp only [Act.put, List.getElem_toArray, List.getElem_cons_zero, List.getElem_cons_succ, List.setIfInBounds_toArray, List.set_cons_zero, List.set_cons_succ]
                refine wpAnyH_take (i := 15) (v := .pointer (some (ag.add (k * 4)))) rfl (by kernel_rfl) (by kernel_rfl) (by kernel_rfl) (fun _ _ _ h => h) (Or.inl ⟨by first | kernel_rfl | rfl, fun _ hS => by go_simp⟩) s0 ?_
                try simp only [Act.put, List.getElem_toArray, List.getElem_cons_zero, List.getElem_cons_succ, List.setIfInBounds_toArray, List.set_cons_zero, List.set_cons_succ]
                refine wpAnyH_take (i := 16) (v := .slice (some ⟨gx, 0, none⟩) km kc) rfl (by kernel_rfl) (by kernel_rfl) (by kernel_rfl) (fun _ _ _ h => h) (Or.inl ⟨by first | kernel_rfl | rfl, fun _ hS => by obtain ⟨k1, k2⟩ := hS; go_simp⟩) s0 ?_
                try simp only [Act.put, List.getElem_toArray, List.getElem_cons_zero, List.getElem_cons_succ, List.setIfInBounds_toArray, List.set_cons_zero, List.set_cons_succ]
                refine wpAnyH_take (i := 17) (v := .int .i64 (q : Int)) rfl (by kernel_rfl) (by kernel_rfl) (by kernel_rfl) (fun _ _ _ h => h) (Or.inl ⟨by first | kernel_rfl | rfl, fun _ hS => by go_simp⟩) s0 ?_
                try simp only [Act.put, List.getElem_toArray, List.getElem_cons_zero, List.getElem_cons_succ, List.setIfInBounds_toArray, List.set_cons_zero, List.set_cons_succ]
                refine wpAnyH_take (i := 18) (v := .pointer (some ⟨gx, q, none⟩)) rfl (by kernel_rfl) (by kernel_rfl) (by kernel_rfl) (fun _ _ _ h => h) (Or.inl ⟨by first | kernel_rfl | rfl, fun _ hS => by go_simp⟩) s0 ?_
                try simp only [Act.put, List.getElem_toArray, List.getElem_cons_zero, List.getElem_cons_succ, List.setIfInBounds_toArray, List.set_cons_zero, List.set_cons_succ]
                refine wpAnyH_ready (rs := [19]) (by kernel_rfl) (by simp) ?_
                refine AllReadyH.cons rfl (fun K hK => ?_) AllReadyH.nil
                go_simp
                refine hK.out _ _ s0 (fun _ => ?_)
                clear hK K
                try simp only [Act.put, List.getElem_toArray, List.getElem_cons_zero, List.getElem_cons_succ, List.setIfInBounds_toArray, List.set_cons_zero, List.set_cons_succ]
                refine wpAnyH_ready (rs := [20]) (by kernel_rfl) (by simp) ?_
                refine AllReadyH.cons rfl (fun K hK => ?_) AllReadyH.nil
                go_simp
                refine hK.out _ _ s0 (fun _ => ?_)
                clear hK K
                try simp only [Act.put, List.getElem_toArray, List.getElem_cons_zero, List.getElem_cons_succ, List.setIfInBounds_toArray, List.set_cons_zero, List.set_cons_succ]
                refine wpAnyH_take (i := 21) (v := .pointer (some ⟨gx, q, none⟩)) rfl (by kernel_rfl) (by kernel_rfl) (by kernel_rfl) (fun _ _ _ h => h) (Or.inl ⟨by first | kernel_rfl | rfl, fun _ hS => by go_simp⟩) s0 ?_
                try simp only [Act.put, List.getElem_toArray, List.getElem_cons_zero, List.getElem_cons_succ, List.setIfInBounds_toArray, List.set_cons_zero, List.set_cons_succ]
                refine wpAnyH_ready (rs := [22]) (by kernel_rfl) (by simp) ?_
                refine AllReadyH.cons rfl (fun K hK => ?_) AllReadyH.nil
                go_simp
                refine hK.out _ _ (by first | exact HSC.out _ | skip) (fun _ => ?_)
                clear hK K
                try simp only [Act.put, List.getElem_toArray, List.getElem_cons_zero, List.getElem_cons_succ, List.setIfInBounds_toArray, List.set_cons_zero, List.set_cons_succ]
                refine wpAnyH_done (by kernel_rfl) (NoPanic.normal ?_) _
                try simp only [Act.put, List.getElem_toArray, List.getElem_cons_zero, List.getElem_cons_succ, List.setIfInBounds_toArray, List.set_cons_zero, List.set_cons_succ]
                go_wp2_with fail
                go_roundw
                case rel => exact ⟨q + 1, by omega, by go_num, Lib.hid (by first | exact (HSET.out _).drew | exact HSET.out _)⟩
                case measure => simp [intOf]; omega
              · obtain rfl : q = km := by omega
                clear hltq p0 p1 p2
                generalize wr = wm at hmk ⊢
                have hmm := hmk
                obtain ⟨p0, ⟨p1, p2⟩⟩ := And.intro (HPC.out wm hmm.out) (HROW.out wm hmm.out)
                go_wp2_with fail
                go_loopw [115] (fun t wr => ∃ q : Nat, q ≤ vm ∧ t = .int .i64 q ∧ Hid (Mz Z w7 wr)) (fun t _ => vm - (intOf t).toNat)
                case atStart => exact ⟨0, by omega, rfl, hmm⟩
                case round =>
                  obtain ⟨q, hq, rfl, hmk⟩ := hrel
                  obtain ⟨p0, ⟨p1, p2⟩⟩ := And.intro (HPC.out wr hmk.out) (HROW.out wr hmk.out)
                  by_cases hltq : q < vm
                  · obtain ⟨gx, v, e, d0, f0, hset⟩ := hmk.out.mark HSPQ.out.2 (k := q) hltq
                    subst e
                    have HSET := Lib.hid hset
                    have HCEL : Hid (∀ W, Mz Z w7 W → W.cell? (ax.add i) = some (.slice (some ag) gn gc) ∧ W.cell? ⟨(ag.add (k * 4)).block, (ag.add (k * 4)).off + 3, none⟩ = some (.slice (some ⟨gx, 0, none⟩) vm vc)) := Lib.hid (fun W hm => ⟨HPC.out W hm, (HROW.out W hm).2⟩)
                    have i1 : (q : Int) < vm := by omega
                    clear hset
                    go_upto_region 21 with fail
                    have HSC : Hid (∀ y, (fun W : World => W.cell? (ax.add i) = some (.slice (some ag) gn gc) ∧ W.cell? ⟨(ag.add (k * 4)).block, (ag.add (k * 4)).off + 3, none⟩ = some (.slice (some ⟨gx, 0, none⟩) vm vc)) (wr.setCell ⟨gx, q, none⟩ (.int .u8 y)).drew) := Lib.hid (fun y => HCEL.out _ (HSET.out y).drew)
                    refine wp_region_noPanic ?_
                    refine wp_region_held (S := fun W => W.cell? (ax.add i) = some (.slice (some ag) gn gc) ∧ W.cell? ⟨(ag.add (k * 4)).block, (ag.add (k * 4)).off + 3, none⟩ = some (.slice (some ⟨gx, 0, none⟩) vm vc)) (by kernel_rfl) ?_
                    change wpAnyH _ _ _ _ _ _ _ _ (World.drew _)
                    have s0 : (fun W : World => W.cell? (ax.add i) = some (.slice (some ag) gn gc) ∧ W.cell? ⟨(ag.add (k * 4)).block, (ag.add (k * 4)).off + 3, none⟩ = some (.slice (some ⟨gx, 0, none⟩) vm vc)) wr.drew := HCEL.out _ hmk.out.drew
                    refine wpAnyH_take (i := 0) (v := .slice (some ax) j5 c5) rfl (by kernel_rfl) (by kernel_rfl) (by kernel_rfl) (fun _ _ _ h => h) (Or.inl ⟨by first | kernel_rfl | rfl, fun _ hS => by go_simp⟩) s0 ?_
                    try simp only [Act.put, List.getElem_toArray, List.getElem_cons_zero, List.getElem_cons_succ, List.setIfInBounds_toArray, List.set_cons_zero, List.set_cons_succ]
                    refine wpAnyH_take (i := 1) (v := .int .i64 (i : Int)) rfl (by kernel_rfl) (by kernel_rfl) (by kernel_rfl) (fun _ _ _ h => h) (Or.inl ⟨by first | kernel_rfl | rfl, fun _ hS => by go_simp⟩) s0 ?_
                    try simp only [Act.put, List.getElem_toArray, List.getElem_cons_zero, List.getElem_cons_succ, List.setIfInBounds_toArray, List.set_cons_zero, List.set_cons_succ]
                    refine wpAnyH_take (i := 2) (v := .pointer (some (ax.add i))) rfl (by kernel_rfl) (by kernel_rfl) (by kernel_rfl) (fun _ _ _ h => h) (Or.inl ⟨by first | kernel_rfl | rfl, fun _ hS => by go_simp⟩) s0 ?_
                    try simp only [Act.put, List.getElem_toArray, List.getElem_cons_zero, List.getElem_cons_succ, List.setIfInBounds_toArray, List.set_cons_zero, List.set_cons_succ]
                    refine wpAnyH_take (i := 3) (v := .slice (some ag) gn gc) rfl (by kernel_rfl) (by kernel_rfl) (by kernel_rfl) (fun _ _ _ h => h) (Or.inl ⟨by first | kernel_rfl | rfl, fun _ hS => by obtain ⟨k1, k2⟩ := hS; go_simp⟩) s0 ?_
                    try simp only [Act.put, List.getElem_toArray, List.getElem_cons_zero, List.getElem_cons_succ, List.setIfInBounds_toArray, List.set_cons_zero, List.set_cons_succ]
                    refine wpAnyH_take (i := 4) (v := .int .i64 (k : Int)) rfl (by kernel_rfl) (by kernel_rfl) (by kernel_rfl) (fun _ _ _ h => h) (Or.inl ⟨by first | kernel_rfl | rfl, fun _ hS => by go_simp⟩) s0 ?_
                    try simp only [Act.put, List.getElem_toArray, List.getElem_cons_zero, List.getElem_cons_succ, List.setIfInBounds_toArray, List.set_cons_zero, List.set_cons_succ]
                    refine wpAnyH_take (i := 5) (v := .pointer (some (ag.add (k * 4)))) rfl (by kernel_rfl) (by kernel_rfl) (by kernel_rfl) (fun _ _ _ h => h) (Or.inl ⟨by first | kernel_rfl | rfl, fun _ hS => by go_simp⟩) s0 ?_
                    try simp only [Act.put, List.getElem_toArray, List.getElem_cons_zero, List.getElem_cons_succ, List.setIfInBounds_toArray, List.set_cons_zero, List.set_cons_succ]
                    refine wpAnyH_take (i := 6) (v := .pointer (some ⟨(ag.add (k * 4)).block, (ag.add (k * 4)).off + 3, none⟩)) rfl (by kernel_rfl) (by kernel_rfl) (by kernel_rfl) (fun _ _ _ h => h) (Or.inl ⟨by first | kernel_rfl | rfl, fun _ hS => by go_simp⟩) s0 ?_
                    try simp only [Act.put, List.getElem_toArray, List.getElem_cons_zero, List.getElem_cons_succ, List.setIfInBounds_toArray, List.set_cons_zero, List.set_cons_succ]
                    refine wpAnyH_take (i := 7) (v := .slice (some ⟨gx, 0, none⟩) vm vc) rfl (by kernel_rfl) (by kernel_rfl) (by kernel_rfl) (fun _ _ _ h => h) (Or.inl ⟨by first | kernel_rfl | rfl, fun _ hS => by obtain ⟨k1, k2⟩ := hS; go_simp⟩) s0 ?_
                    try simp only [Act.put, List.getElem_toArray, List.getElem_cons_zero, List.getElem_cons_succ, List.setIfInBounds_toArray, List.set_cons_zero, List.set_cons_succ]
                    refine wpAnyH_take (i := 8) (v := .int .i64 (q : Int)) rfl (by kernel_rfl) (by kernel_rfl) (by kernel_rfl) (fun _ _ _ h => h) (Or.inl ⟨by first | kernel_rfl | rfl, fun _ hS => by go_simp⟩) s0 ?_
                    try simp only [Act.put, List.getElem_toArray, List.getElem_cons_zero, List.getElem_cons_succ, List.setIfInBounds_toArray, List.set_cons_zero, List.set_cons_succ]
                    refine wpAnyH_take (i := 9) (v := .slice (some ax) j5 c5) rfl (by kernel_rfl) (by kernel_rfl) (by kernel_rfl) (fun _ _ _ h => h) (Or.inl ⟨by first | kernel_rfl | rfl, fun _ hS => by go_simp⟩) s0 ?_
                    try simp only [Act.put, List.getElem_toArray, List.getElem_cons_zero, List.getElem_cons_succ, List.setIfInBounds_toArray, List.set_cons_zero, List.set_cons_succ]
                    refine wpAnyH_take (i := 10) (v := .int .i64 (i : Int)) rfl (by kernel_rfl) (by kernel_rfl) (by kernel_rfl) (fun _ _ _ h => h) (Or.inl ⟨by first | kernel_rfl | rfl, fun _ hS => by go_simp⟩) s0 ?_
                    try simp only [Act.put, List.getElem_toArray, List.getElem_cons_zero, List.getElem_cons_succ, List.setIfInBounds_toArray, List.set_cons_zero, List.set_cons_succ]
                    refine wpAnyH_take (i := 11) (v := .pointer (some (ax.add i))) rfl (by kernel_rfl) (by kernel_rfl) (by kernel_rfl) (fun _ _ _ h => h) (Or.inl ⟨by first | kernel_rfl | rfl, fun _ hS => by go_simp⟩) s0 ?_
                    try simp only [Act.put, List.getElem_toArray, List.getElem_cons_zero, List.getElem_cons_succ, List.setIfInBounds_toArray, List.set_cons_zero, List.set_cons_succ]
                    refine wpAnyH_take (i := 12) (v := .slice (some ag) gn gc) rfl (by kernel_rfl) (by kernel_rfl) (by kernel_rfl) (fun _ _ _ h => h) (Or.inl ⟨by first | kernel_rfl | rfl, fun _ hS => by obtain ⟨k1, k2⟩ := hS; go_simp⟩) s0 ?_
                    try simp only [Act.put, List.getElem_toArray, List.getElem_cons_zero, List.getElem_cons_succ, List.setIfInBounds_toArray, List.set_cons_zero, List.set_cons_succ]
                    refine wpAnyH_take (i := 13) (v := .int .i64 (k : Int)) rfl (by kernel_rfl) (by kernel_rfl) (by kernel_rfl) (fun _ _ _ h => h) (Or.inl ⟨by first | kernel_rfl | rfl, fun _ hS => by go_simp⟩) s0 ?_
                    try simp only [Act.put, List.getElem_toArray, List.getElem_cons_zero, List.getElem_cons_succ, List.setIfInBounds_toArray, List.set_cons_zero, List.set_cons_succ]
                    refine wpAnyH_take (i := 14) (v := .pointer (some (ag.add (k * 4)))) rfl (by kernel_rfl) (by kernel_rfl) (by kernel_rfl) (fun _ _ _ h => h) (Or.inl ⟨by first | kernel_rfl | rfl, fun _ hS => by go_simp⟩) s0 ?_
                    try simp only [Act.put, List.getElem_toArray, List.getElem_cons_zero, List.getElem_cons_succ, List.setIfInBounds_toArray, List.set_cons_zero, List.set_cons_succ]
                    refine wpAnyH_take (i := 15) (v := .pointer (some ⟨(ag.add (k * 4)).block, (ag.add (k * 4)).off + 3, none⟩)) rfl (by kernel_rfl) (by kernel_rfl) (by kernel_rfl) (fun _ _ _ h => h) (Or.inl ⟨by first | kernel_rfl | rfl, fun _ hS => by go_simp⟩) s0 ?_
                    try simp only [Act.put, List.getElem_toArray, List.getElem_cons_zero, List.getElem_cons_succ, List.setIfInBounds_toArray, List.set_cons_zero, List.set_cons_succ]
                    refine wpAnyH_take (i := 16) (v := .slice (some ⟨gx, 0, none⟩) vm vc) rfl (by kernel_rfl) (by kernel_rfl) (by kernel_rfl) (fun _ _ _ h => h) (Or.inl ⟨by first | kernel_rfl | rfl, fun _ hS => by obtain ⟨k1, k2⟩ := hS; go_simp⟩) s0 ?_
                    try simp only [Act.put, List.getElem_toArray, List.getElem_cons_zero, List.getElem_cons_succ, List.setIfInBounds_toArray, List.set_cons_zero, List.set_cons_succ]
                    refine wpAnyH_take (i := 17) (v := .int .i64 (q : Int)) rfl (by kernel_rfl) (by kernel_rfl) (by kernel_rfl) (fun _ _ _ h => h) (Or.inl ⟨by first | kernel_rfl | rfl, fun _ hS => by go_simp⟩) s0 ?_
                    try simp only [Act.put, List.getElem_toArray, List.getElem_cons_zero, List.getElem_cons_succ, List.setIfInBounds_toArray, List.set_cons_zero, List.set_cons_succ]
                    refine wpAnyH_take (i := 18) (v := .pointer (some ⟨gx, q, none⟩)) rfl (by kernel_rfl) (by kernel_rfl) (by kernel_rfl) (fun _ _ _ h => h) (Or.inl ⟨by first | kernel_rfl | rfl, fun _ hS => by go_simp⟩) s0 ?_
                    try simp only [Act.put, List.getElem_toArray, List.getElem_cons_zero, List.getElem_cons_succ, List.setIfInBounds_toArray, List.set_cons_zero, List.set_cons_succ]
                    refine wpAnyH_ready (rs := [19]) (by kernel_rfl) (by simp) ?_
                    refine AllReadyH.cons rfl (fun K hK => ?_) AllReadyH.nil
                    go_simp
                    refine hK.out _ _ s0 (fun _ => ?_)
                    clear hK K
                    try simp only [Act.put, List.getElem_toArray, List.getElem_cons_zero, List.getElem_cons_succ, List.setIfInBounds_toArray, List.set_cons_zero, List.set_cons_succ]
                    refine wpAnyH_ready (rs := [20]) (by kernel_rfl) (by simp) ?_
                    refine AllReadyH.cons rfl (fun K hK => ?_) AllReadyH.nil
                    go_simp
                    refine hK.out _ _ s0 (fun _ => ?_)
                    clear hK K
                    try simp only [Act.put, List.getElem_toArray, List.getElem_cons_zero, List.getElem_cons_succ, List.setIfInBounds_toArray, List.set_cons_zero, List.set_cons_succ]
                    refine wpAnyH_take (i := 21) (v := .pointer (some ⟨gx, q, none⟩)) rfl (by kernel_rfl) (by kernel_rfl) (by kernel_rfl) (fun _ _ _ h => h) (Or.inl ⟨by first | kernel_rfl | rfl, fun _ hS => by go_simp⟩) s0 ?_
                    try simp only [Act.put, List.getElem_toArray, List.getElem_cons_zero, List.getElem_cons_succ, List.setIfInBounds_toArray, List.set_cons_zero, List.set_cons_succ]
                    refine wpAnyH_ready (rs := [22]) (by kernel_rfl) (by simp) ?_
                    refine AllReadyH.cons rfl (fun K hK => ?_) AllReadyH.nil
                    go_simp
                    refine hK.out _ _ (by first | exact HSC.out _ | skip) (fun _ => ?_)
                    clear hK K
                    try simp only [Act.put, List.getElem_toArray, List.getElem_cons_zero, List.getElem_cons_succ, List.setIfInBounds_toArray, List.set_cons_zero, List.set_cons_succ]
                    refine wpAnyH_done (by kernel_rfl) (NoPanic.normal ?_) _
                    try simp only [Act.put, List.getElem_toArray, List.getElem_cons_zero, List.getElem_cons_succ, List.setIfInBounds_toArray, List.set_cons_zero, List.set_cons_succ]
                    go_wp2_with fail
                    go_roundw
                    case rel => exact ⟨q + 1, by omega, by go_num, Lib.hid (by first | exact (HSET.out _).drew | exact HSET.out _)⟩
                    case measure => simp [intOf]; omega
                  · obtain rfl : q = vm := by omega
                    clear hltq p0 p1 p2
                    go_wp2_with fail
                    go_roundw
                    case rel => exact ⟨k + 1, by omega, by go_num, hmk⟩
                    case measure => simp [intOf]; omega
          · obtain rfl : k = gn := by omega
            go_wp2_with fail
            go_roundw
            case rel => exact ⟨i + 1, by omega, by go_num, hmm⟩
            case measure => simp [intOf]; omega
      · obtain rfl : i = j5 := by omega
        have HM := Lib.hid hr.out
        clear hr hlt hi hj9 HLNG HSP
        generalize wr = u1 at HM ⊢
        have HID1 : Hid (m7 = 0 ∨ ∃ g, A7 = some ⟨g, 0, none⟩ ∧ w6.heap.size ≤ g ∧ IdW u1 g m7) := Lib.hid (E7.out.1.imp id (fun h => by
          obtain ⟨g, e1, e2, e3, e4⟩ := h
          exact ⟨g, e1, e2, e4.kp HM.out.kp (fun hZ => by have := HZR.out g hZ; have := E6.out.2.2.2.2.size; omega)⟩))
        go_wp2_with fail
        go_loopw [145] (fun t145 wr => ∃ i : Nat, i ≤ m7 ∧ t145 = .int .i64 i ∧ Hid ((m7 = 0 ∨ ∃ g, A7 = some ⟨g, 0, none⟩ ∧ w6.heap.size ≤ g ∧ IdW wr g m7) ∧ Kp (fun b => b < w6.heap.size) u1 wr)) (fun t145 _ => m7 - (intOf t145).toNat)
        case atStart => exact ⟨0, by omega, rfl, Lib.hid ⟨HID1.out, Kp.refl _ _⟩⟩
        case round =>
          obtain ⟨i, hi, rfl, hr⟩ := hrel
          by_cases hlt : i < m7
          · obtain ⟨g, rfl, e2, e3⟩ := hr.out.1.resolve_left (by omega)
            obtain ⟨⟨u, hu⟩, f0, -⟩ := e3.put hlt (.int .i64 (-1))
            have HPU := Lib.hid ((e3.put hlt (.int .i64 (-1))).2.2)
            have HKP := Lib.hid (hr.out.2.set g i (.int .i64 (-1)) (by omega))
            have HE2 := Lib.hid e2
            have i0 : (i : Int) < m7 := by omega
            clear e2 e3
            go_wp2_with fail
            go_roundw
            case rel => exact ⟨i + 1, by omega, by go_num, Lib.hid ⟨.inr ⟨g, rfl, HE2.out, HPU.out⟩, HKP.out⟩⟩
            case measure => simp [intOf]; omega
          · obtain rfl : i = m7 := by omega
            have HK3 : Hid (Kp (fun b => ¬ Z b ∧ b < w6.heap.size) w7 wr) := Lib.hid (HM.out.kp.and hr.out.2)
            clear hr hlt hi HID1 HM
            generalize wr = u3 at HK3 ⊢
            have BC3 : Hid (Below wc.heap.size wc u3) := Lib.hid (BC7.out.trans (HK3.out.below (fun g hg => ⟨fun hz => by have := (HZR.out g hz).1; omega, by have := BC6.out.size; omega⟩)))
            have BW3 : Hid (Below w.heap.size w u3) := Lib.hid (below_then (below_then B0.out E4.out.2.2.2) BC3.out)
            have K6' : Hid (GMades u3 w5.heap.size T6 ∧ Grow u3 w5.heap.size A6 c6 T6) := Lib.hid (by
              have hS : ∀ ad : Addr, w5.heap.size ≤ ad.block → ad.block < w6.heap.size → (¬ Z ad.block ∧ ad.block < w6.heap.size) := fun ad h1 h2 => ⟨fun hz => by have := (HZR.out _ hz).2; omega, h2⟩
              refine ⟨fun p hp => ⟨own_kp (K6.out.1 p hp).1 HK3.out (fun ad ha => hS ad (own_in (E6.out.2.2.1 p hp).1 ad ha).1 (own_in (E6.out.2.2.1 p hp).1 ad ha).2), fun q hq => ⟨own_kp ((K6.out.1 p hp).2 q hq).1 HK3.out (fun ad ha => hS ad (own_in ((E6.out.2.2.1 p hp).2 q hq).1 ad ha).1 (own_in ((E6.out.2.2.1 p hp).2 q hq).1 ad ha).2), own_kp ((K6.out.1 p hp).2 q hq).2 HK3.out (fun ad ha => hS ad (own_in ((E6.out.2.2.1 p hp).2 q hq).2 ad ha).1 (own_in ((E6.out.2.2.1 p hp).2 q hq).2 ad ha).2)⟩⟩, own_kp K6.out.2 HK3.out (fun ad ha => hS ad (own_in E6.out.2.2.2.1 ad ha).1 (own_in E6.out.2.2.2.1 ad ha).2)⟩)
            have HT2 : Hid (LF u3 A2 T2 n c2) := Lib.hid (E4.out.1.2.kept BC3.out)
            have HLL : Hid (LF u3 A Ls n c) := Lib.hid (HH.out.kept BW3.out)
            have HFT := Lib.hid E4.out.1.1
            have HA6 : Hid (T6.length = j6 ∧ RunAns (fl Ls) z m b er6 (fl T6)) := Lib.hid ⟨E6.out.1, E6.out.2.1⟩
            have HV3 : Hid (trs T3 = trs T ∧ TsIn u3 A3 T3 nv c3 ∧ TsIn u3 B T nv cv) := Lib.hid ⟨E4.out.2.1.1, E4.out.2.1.2.kept BC3.out, HT.out.1.kept BW3.out⟩
            have HCC : Hid (∀ W, Below u3.heap.size u3 W → ((W.cell? ⟨w.heap.size, 0, none⟩ = some (.slice B nv cv) ∧ W.cell? ⟨w.heap.size, 1, none⟩ = some (.int .i64 x1) ∧ W.cell? ⟨w.heap.size, 2, none⟩ = some (.int .i64 x2) ∧ W.cell? ⟨w.heap.size, 3, none⟩ = some (.int .i64 x3)) ∧ W.cell? ⟨w.heap.size + 1, 0, none⟩ = some (.int .i64 m) ∧ W.cell? ⟨w.heap.size + 1, 1, none⟩ = some (.int .i64 z) ∧ W.cell? ⟨w.heap.size + 1, 2, none⟩ = some (.bool b)) ∧ W.cell? ⟨g8, 0, none⟩ = some (.slice A3 nv c3) ∧ W.cell? ⟨g8, 1, none⟩ = some (.int .i64 x1) ∧ W.cell? ⟨g8, 2, none⟩ = some (.int .i64 x2) ∧ W.cell? ⟨g8, 3, none⟩ = some (.int .i64 x3)) := Lib.hid (fun W hW => ⟨HC.out W (below_then (below_then E4.out.2.2.2 BC3.out) hW), H8.out W (below_then BC3.out hW)⟩)
            clear E4 E5 E6 E7 K5 K6 HZS HZR HK3 HRUN HC H8 BC6 BC7 B57 BC3
            go_wp2_with fail
            go_loopw [154] (fun t154 wr => ∃ i : Nat, i ≤ n ∧ t154 = .int .i64 i ∧ Hid (Below u3.heap.size u3 wr)) (fun t154 _ => n - (intOf t154).toNat)
            case atStart => exact ⟨0, by omega, rfl, Lib.hid (Below.refl _ _)⟩
            case round =>
              obtain ⟨i, hi, rfl, hr⟩ := hrel
              by_cases hlt : i < n
              · have hq := List.getElem?_eq_getElem (l := T2) (i := i) (by have := HT2.out.ls.len; omega)
                generalize T2[i]'(by have := HT2.out.ls.len; omega) = x at hq
                have hq' := List.getElem?_eq_getElem (l := Ls) (i := i) (by have := HLL.out.ls.len; omega)
                generalize Ls[i]'(by have := HLL.out.ls.len; omega) = y at hq'
                obtain ⟨ad, rfl, a0⟩ := take_gvals HT2.out.ls.lies hq
                obtain ⟨ad', rfl, b0⟩ := take_gvals HLL.out.ls.lies hq'
                have hxy : ers x.l = ers y.l := by
                  have h1 := fl_get hq
                  have h2 := fl_get hq'
                  rw [HFT.out, h2] at h1
                  injection h1 with h1
                  exact h1.symm
                have i0 : (i : Int) < n := by omega
                obtain ⟨xn, hxn⟩ : ∃ m, x.l.length = m := ⟨_, rfl⟩
                obtain ⟨yn, hyn⟩ : ∃ m, y.l.length = m := ⟨_, rfl⟩
                have HSM : Hid (∀ W, Below u3.heap.size u3 W → Calls Try.prog 24 #[.slice x.a xn x.c, .slice y.a yn y.c] W fun e w' => e = .returned (.bool true) ∧ Below W.heap.size W w') := Lib.hid (fun W hW => by
                  have h1 := (HT2.out.each (List.mem_of_getElem? hq)).kept hW
                  have h2 := (HLL.out.each (List.mem_of_getElem? hq')).kept hW
                  exact sameEns hxn hyn h1.lies h2.lies h1.ins h2.ins hxy (by rw [← hxn]; exact h1.few))
                have HLY : Hid (∀ W, Below u3.heap.size u3 W → W.cell? (ad.add i) = some (.slice x.a xn x.c) ∧ W.cell? (ad'.add i) = some (.slice y.a yn y.c)) := Lib.hid (fun W hW => by
                  obtain ⟨d, e, h1⟩ := take_gvals (HT2.out.ls.lies.kept hW) hq
                  obtain ⟨d', e', h2⟩ := take_gvals (HLL.out.ls.lies.kept hW) hq'
                  injection e with e
                  injection e' with e'
                  subst e e'
                  unfold Gl.val at h1 h2
                  rw [hxn] at h1
                  rw [hyn] at h2
                  exact ⟨h1, h2⟩)
                clear hq hq' hxy hxn hyn a0 b0
                have RR := Lib.hid hr.out
                go_upto_region 33 with fail
                go_region_held3 (fun W => W.cell? (ad.add i) = some (.slice x.a xn x.c) ∧ W.cell? (ad'.add i) = some (.slice y.a yn y.c)) (first | exact HLY.out _ RR.out | exact HLY.out _ RR.out.drew | go_keep) (first
                  | (go_at_call 24; refine (HSM.out _ (by first | exact RR.out | exact RR.out.drew)).mono ?_; rintro e w9 ⟨rfl, hz⟩; have RR : Hid (Below u3.heap.size u3 w9) := Lib.hid (below_then (by first | exact RR.out | exact RR.out.drew) hz); clear hz))
                all_goals
                  go_wp2_with fail
                  go_roundw
                  case rel => exact ⟨i + 1, by omega, by go_num, RR⟩
                  case measure => simp [intOf]; omega
              · obtain rfl : i = n := by omega
                have H4 := Lib.hid hr.out
                clear hr hlt hi
                generalize wr = u4 at H4 ⊢
                obtain ⟨⟨-, q0, q1, q2⟩, -⟩ := HCC.out u4 H4.out
                go_upto_region 37 with (go_at_call 42; refine (refRun_m m z b (HLL.out.kept H4.out) rfl).mono ?_; rintro e u5 ⟨T8, A8, j8, c8, er8, rfl, h1, h2, h3, h4, h5⟩; have E8 : Hid (T8.length = j8 ∧ fl T6 = fl T8 ∧ (∀ g ∈ T8, Lies u5 g.a (evals g.l) ∧ EIns u5 g.l ∧ g.l.length ≤ g.c ∧ (g.c : Int) ≤ 9223372036854775807) ∧ Lies u5 A8 (gvals T8) ∧ Below u3.heap.size u3 u5) := Lib.hid ⟨h1, (HA6.out.2.one h2).2, h3, h4, below_then H4.out h5⟩; clear h1 h2 h3 h4 h5)
                clear q0 q1 q2
                obtain ⟨⟨⟨r0, r1, r2, r3⟩, -⟩, s0, s1, s2, s3⟩ := HCC.out u5 E8.out.2.2.2.2
                have HSV : Hid (Calls Try.prog 46 #[.agg #[.slice A3 nv c3, .int .i64 x1, .int .i64 x2, .int .i64 x3], .agg #[.slice B nv cv, .int .i64 x1, .int .i64 x2, .int .i64 x3]] u5 fun e w' => e = .returned (.bool true) ∧ Below u5.heap.size u5 w') := Lib.hid (sameV_any A3 B T3 T nv c3 cv x1 x2 x3 u5 (HV3.out.2.1.kept E8.out.2.2.2.2) (HV3.out.2.2.kept E8.out.2.2.2.2) HV3.out.1)
                have HSG : Hid (∀ W, Below u5.heap.size u5 W → Calls Try.prog 43 #[.slice A6 j6 c6, .slice A8 j8 c8] W fun e w' => e = .returned (.bool true) ∧ Below W.heap.size W w') := Lib.hid (fun W hW => by
                  have hm := runAns_mem HA6.out.2
                  have ht := HTOT.out
                  have hl6 : (fl T6).flatten.length * 64 ≤ 140737488351232 := by have := hm.2; omega
                  have hb := below_then E8.out.2.2.2.2 hW
                  have g6 := ((K6'.out.1.kept hb (Nat.le_refl _)).gs HA6.out.1 (K6'.out.2.kept hb (Nat.le_refl _)) (fun x hx => HH.out.byt x (hm.1 x hx)) hl6)
                  have g8 := (gs_ref E8.out.1 E8.out.2.2.2.1 E8.out.2.2.1 (by rw [← E8.out.2.1]; exact hl6)).kept hW
                  have hj : j8 = j6 := by rw [← E8.out.1, ← HA6.out.1, ← fl_length, ← fl_length, E8.out.2.1]
                  have hf := runAns_few HA6.out.2
                  rw [fl_length, HA6.out.1] at hf
                  subst hj
                  exact sameGl_any A6 A8 T6 T8 j8 c6 c8 W g6 g8 E8.out.2.1 (by omega))
                have BU5 : Hid (Below w.heap.size w u5) := Lib.hid (below_then BW3.out E8.out.2.2.2.2)
                clear E8
                go_wp2_with (first
                  | (go_at_call 46; refine HSV.out.mono ?_; rintro e u6 ⟨rfl, hb⟩; have B6 := Lib.hid hb; clear hb)
                  | (go_at_call 43; refine (HSG.out _ B6.out).mono ?_; rintro e u7 ⟨rfl, hb⟩; have B7 := Lib.hid (below_then (below_then BU5.out B6.out) hb); clear hb))
                go_ret
                exact ⟨rfl, B7.out⟩
end Go.Proofs.Ytcffpkflijpdjaa
