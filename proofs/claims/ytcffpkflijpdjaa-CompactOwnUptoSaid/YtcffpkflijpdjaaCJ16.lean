/-
  Walks: versions copied, and alike. Walks: versions that are alike. Walks: is anything below: numbers in a map, the closures that ask. Walks: is anything below. Walks: Bottom. Walks: which options may be. Walks: the law's first look.
-/
import Derived.Maps.OwnSet
import Derived.Carry
import Derived.Test.YtcffpkflijpdjaaCJ15
set_option linter.unusedSimpArgs false
set_option linter.unusedVariables false
namespace Go.Proofs.Ytcffpkflijpdjaa
open Go.RowKit
theorem set_four_v {W : World} {z : Nat} {a b c d e f g h : Value} {t : TypeId} (hz : W.heap[z]? = some (.cells #[a, b, c, d] t (0, 0))) : ((((W.setCell ⟨z, 0, none⟩ e).setCell ⟨z, 1, none⟩ f).setCell ⟨z, 2, none⟩ g).setCell ⟨z, 3, none⟩ h).heap[z]? = some (.cells #[e, f, g, h] t (0, 0)) := set_four hz
set_option maxRecDepth 100000 in
set_option maxHeartbeats 8000000 in
theorem copyV_any (A : Option Addr) (T : List Ta) (n c : Nat) (x1 x2 x3 : Int) (w : World) (h : TsIn w A T n c) (hs : ∀ q ∈ T, q.lo.l.length ≤ 140737488355328 ∧ q.hi.l.length ≤ 140737488355328) :
    Calls Try.prog 44 #[.agg #[.slice A n c, .int .i64 x1, .int .i64 x2, .int .i64 x3]] w fun e w' => ∃ (T' : List Ta) (A' : Option Addr) (c' : Nat), trs T' = trs T ∧ e = .returned (.agg #[.slice A' n c', .int .i64 x1, .int .i64 x2, .int .i64 x3]) ∧ TMades w' w.heap.size T' ∧ Trow w' w.heap.size A' c' T' ∧ Below w.heap.size w w' := by
  have HH := Lib.hid h
  obtain ⟨w1, hw1⟩ : ∃ w1, ((w.alloc (.cells #[.slice A n c, .int .i64 x1, .int .i64 x2, .int .i64 x3] 82)).alloc (.cells #[.slice none 0 0, .int .i64 0, .int .i64 0, .int .i64 0] 82)) = w1 := ⟨_, rfl⟩
  have B1 : Hid (Below w.heap.size w w1 ∧ w1.heap.size = w.heap.size + 2) := Lib.hid ⟨hw1 ▸ (below_new w _).alloc (by simp) _, by rw [← hw1]; simp⟩
  have H1 : Hid (w1.heap[w.heap.size]? = some (.cells #[.slice A n c, .int .i64 x1, .int .i64 x2, .int .i64 x3] 82 (0, 0)) ∧ w1.heap[w.heap.size + 1]? = some (.cells #[.slice none 0 0, .int .i64 0, .int .i64 0, .int .i64 0] 82 (0, 0))) := Lib.hid (by
    refine ⟨?_, ?_⟩
    · have e := (RowKit.Below.heap_alloc (w.alloc (.cells #[.slice A n c, .int .i64 x1, .int .i64 x2, .int .i64 x3] 82)) (.cells #[.slice none 0 0, .int .i64 0, .int .i64 0, .int .i64 0] 82) w.heap.size (by simp)).trans (heap_alloc_new w _)
      rwa [hw1] at e
    · have e := heap_alloc_new (w.alloc (.cells #[.slice A n c, .int .i64 x1, .int .i64 x2, .int .i64 x3] 82)) (.cells #[.slice none 0 0, .int .i64 0, .int .i64 0, .int .i64 0] 82)
      rwa [hw1, World.size_alloc] at e)
  have HTB : Hid (Calls Try.prog 66 #[.slice A n c] w1 (TCopied w1 T)) := Lib.hid (tables_any A T n c w1 (h.kept B1.out.1) hs)
  clear h hs
  go_enter Try.func44, Try.ntmps44
  go_upto_region 1 with fail
  try rw [hw1]
  clear hw1
  obtain ⟨c0, c1, c2, c3⟩ := box_four H1.out.1
  go_upto_region 2 with (go_at_call 66; refine HTB.out.mono ?_; rintro e w2 ⟨T', A', c', t1, rfl, t2, t3, t4⟩; have H2 : Hid (trs T' = trs T ∧ TMades w2 w1.heap.size T' ∧ Trow w2 w1.heap.size A' c' T' ∧ Below w1.heap.size w1 w2 ∧ w2.heap[w.heap.size]? = some (.cells #[.slice A n c, .int .i64 x1, .int .i64 x2, .int .i64 x3] 82 (0, 0)) ∧ w2.heap[w.heap.size + 1]? = some (.cells #[.slice none 0 0, .int .i64 0, .int .i64 0, .int .i64 0] 82 (0, 0))) := Lib.hid ⟨t1, t2, t3, t4, (t4.block _ (by have := B1.out.2; omega)).trans H1.out.1, (t4.block _ (by have := B1.out.2; omega)).trans H1.out.2⟩; clear t1 t2 t3 t4 c0 c1 c2 c3; rw [HH.out.len]; have f0 := froz w2 w.heap.size 0 _ _ H2.out.2.2.2.2.1; obtain ⟨c0, c1, c2, c3⟩ := box_four H2.out.2.2.2.2.1)
  obtain ⟨w3, hw3⟩ : ∃ w3, w2.setCell ⟨w.heap.size, 0, none⟩ (.slice A' n c') = w3 := ⟨_, rfl⟩
  have H3 : Hid (TMades w3 w1.heap.size T' ∧ Trow w3 w1.heap.size A' c' T' ∧ Below w.heap.size w w3 ∧ w3.heap[w.heap.size]? = some (.cells #[.slice A' n c', .int .i64 x1, .int .i64 x2, .int .i64 x3] 82 (0, 0)) ∧ w3.heap[w.heap.size + 1]? = some (.cells #[.slice none 0 0, .int .i64 0, .int .i64 0, .int .i64 0] 82 (0, 0))) := Lib.hid (by
    have kk := (Kp.refl (fun j => j ≠ w.heap.size) w2).set w.heap.size 0 (.slice A' n c') (by simp)
    have s1 := B1.out.2
    rw [hw3] at kk
    refine ⟨fun q hq => ⟨own_kp (H2.out.2.1 q hq).1 kk (fun ad ha => by have := (own_in (H2.out.2.1 q hq).1 ad ha).1; omega), own_kp (H2.out.2.1 q hq).2 kk (fun ad ha => by have := (own_in (H2.out.2.1 q hq).2 ad ha).1; omega)⟩, own_kp H2.out.2.2.1 kk (fun ad ha => by have := (own_in H2.out.2.2.1 ad ha).1; omega), (below_then B1.out.1 H2.out.2.2.2.1).trans (kk.below (fun j hj => by omega)), ?_, ?_⟩
    · rw [← hw3]
      exact heap_setCell_same w2 w.heap.size 0 _ _ _ H2.out.2.2.2.2.1
    · exact (kk.block _ (by omega)).trans H2.out.2.2.2.2.2)
  try rw [hw3]
  clear hw3 f0 c0 c1 c2 c3 H1
  obtain ⟨c0, c1, c2, c3⟩ := box_four H3.out.2.2.2.1
  obtain ⟨y0, y1, y2, y3⟩ := box_four H3.out.2.2.2.2
  have f0 := froz w3 (w.heap.size + 1) 0 _ _ H3.out.2.2.2.2
  have f1 := froz w3 (w.heap.size + 1) 1 _ _ H3.out.2.2.2.2
  have f2 := froz w3 (w.heap.size + 1) 2 _ _ H3.out.2.2.2.2
  have f3 := froz w3 (w.heap.size + 1) 3 _ _ H3.out.2.2.2.2
  go_wp2_with fail
  have H5 := Lib.hid (set_four_v (e := .slice A' n c') (f := .int .i64 x1) (g := .int .i64 x2) (h := .int .i64 x3) H3.out.2.2.2.2)
  have K5 := Lib.hid (set_four_kp (Kp.refl (fun j => j ≠ w.heap.size + 1) w3) (w.heap.size + 1) (.slice A' n c') (.int .i64 x1) (.int .i64 x2) (.int .i64 x3) (by simp))
  clear c0 c1 c2 c3 y0 y1 y2 y3 f0 f1 f2 f3
  generalize ((((w3.setCell ⟨w.heap.size + 1, 0, none⟩ (.slice A' n c')).setCell ⟨w.heap.size + 1, 1, none⟩ (.int .i64 x1)).setCell ⟨w.heap.size + 1, 2, none⟩ (.int .i64 x2)).setCell ⟨w.heap.size + 1, 3, none⟩ (.int .i64 x3)) = w5 at H5 K5 ⊢
  try simp only [Exit.inBlock, Exit.then]
  refine bodyPost_ret (results_cell_row rfl _ _ (w.heap.size + 1) 82 #[.slice A' n c', .int .i64 x1, .int .i64 x2, .int .i64 x3] (0, 0) _ rfl H5.out Try.underlying82 rfl (by kernel_rfl)) rfl ?_
  have s1 := B1.out.2
  exact ⟨T', A', c', H2.out.1, rfl, fun q hq => ⟨own_mono (own_kp (H3.out.1 q hq).1 K5.out (fun ad ha => by have := (own_in (H3.out.1 q hq).1 ad ha).1; omega)) (by omega), own_mono (own_kp (H3.out.1 q hq).2 K5.out (fun ad ha => by have := (own_in (H3.out.1 q hq).2 ad ha).1; omega)) (by omega)⟩, own_mono (own_kp H3.out.2.1 K5.out (fun ad ha => by have := (own_in H3.out.2.1 ad ha).1; omega)) (by omega), H3.out.2.2.1.trans (K5.out.below (fun j hj => by omega))⟩
end Go.Proofs.Ytcffpkflijpdjaa
namespace Go.Proofs.Ytcffpkflijpdjaa
open Go.RowKit
theorem cell_inT {W : World} {ad : Addr} {v : Value} (h : W.cell? ad = some v) : ad.block < W.heap.size := by
  unfold World.cell? at h
  cases hh : W.heap[ad.block]? with
  | none => rw [hh] at h; cases h
  | some o => exact (Array.getElem?_eq_some_iff.1 hh).1
end Go.Proofs.Ytcffpkflijpdjaa
namespace Go.Proofs.Ytcffpkflijpdjaa
open Go.RowKit
def unitR : Value → Option (DataW Unit × List MemPlace)
  | .agg ⟨[]⟩ => some (.nil, [])
  | _ => none
theorem unitR_inv {v : Value} {z : DataW Unit × List MemPlace} (h : unitR v = some z) : v = .agg #[] := by
  unfold unitR at h
  split at h
  · rfl
  · cases h
def WfI (x : Int) : Prop := (Lit.int .i64 x).wf = true
/-- A map that holds these numbers. -/
def MapIs (w : World) (b n : Nat) (S : List Int) : Prop := ∃ D : DataW Unit, w.ownsMap Try.prog 3 unitR b n D ∧ ∀ x, Maps.has D (.int .i64 x) = decide (x ∈ S)
theorem intT : Maps.Keyed Try.prog 3 := Maps.int_keyed Try.underlying3
theorem zeroU (w : World) : (zeroValue 132).run Try.prog w = .ok (.agg #[]) w := by kernel_rfl
theorem MapIs.look {w : World} {b n : Nat} {S : List Int} (h : MapIs w b n S) (x : Int) (hx : WfI x) : (Instr.lookup 131 (.map (some b)) (.int .i64 x) true).run Try.prog w = .ok (.tuple #[.agg #[], .bool (decide (x ∈ S))]) w := by
  obtain ⟨D, hD, hh⟩ := h
  obtain ⟨v, ps, hrun, hv⟩ := hD.look_ok intT Try.underlying131 (zeroU w) (zd := .nil) (zp := []) rfl (Maps.keyOf_int_mk Try.underlying3 hx)
  rw [hrun, hh x, unitR_inv hv]
theorem MapIs.put {w : World} {b n : Nat} {S : List Int} (h : MapIs w b n S) (x : Int) (hx : WfI x) (hn : n < maxLen) : ∃ w', (Instr.mapUpdate 131 (.map (some b)) (.int .i64 x) (.agg #[])).run Try.prog w = .ok () w' ∧ MapIs w' b (n + 1) (S ++ [x]) ∧ w.grownBy w' (some b) := by
  obtain ⟨D, hD, hh⟩ := h
  obtain ⟨w', h1, h2, h3⟩ := hD.update intT Try.underlying131 hn (Maps.keyOf_int_mk Try.underlying3 hx) (val := .agg #[]) (d := .nil) (ps := []) rfl
  refine ⟨w', h1, ⟨_, h2, fun y => ?_⟩, h3⟩
  by_cases e : y = x
  · subst e
    rw [Maps.has_put_same hD.isMap (by first | exact trivial | exact ⟨⟩ | simp [WideAt.IsKeyLit])]
    simp
  · rw [Maps.has_put_other (by simpa using e), hh]
    simp [e]
theorem MapIs.new (w : World) : MapIs (w.alloc (.map #[] 0)) w.heap.size 0 [] := ⟨.map [], World.ownsMap_made w _ _ _, fun x => rfl⟩
theorem MapIs.alloc {w : World} {b n : Nat} {S : List Int} (h : MapIs w b n S) (o : Obj) : MapIs (w.alloc o) b n S := by
  obtain ⟨D, hD, hh⟩ := h
  exact ⟨D, hD.alloc o, hh⟩
theorem MapIs.lt {w : World} {b n : Nat} {S : List Int} (h : MapIs w b n S) : b < w.heap.size := by
  obtain ⟨D, hD, hh⟩ := h
  exact hD.lt
theorem MapIs.kept {w w' : World} {b n : Nat} {S : List Int} (h : MapIs w b n S) (hb : Below w.heap.size w w') : MapIs w' b n S := by
  have hl := h.lt
  obtain ⟨D, ⟨es, clock, h1, h2, h3, h4⟩, hh⟩ := h
  exact ⟨D, ⟨es, clock, (hb.block b hl).trans h1, h2, h3, h4⟩, hh⟩
theorem grown_below {w w' : World} {b B : Nat} (h : w.grownBy w' (some b)) (hB : B ≤ b) (hs : B ≤ w.heap.size) : Below B w w' :=
  ⟨h.os, h.tape, h.output, h.size, fun k hk => h.block k (by omega) (fun e => by injection e with e; omega)⟩
set_option maxRecDepth 100000 in
set_option maxHeartbeats 4000000 in
theorem bot1_any (q : Ta) (g b n : Nat) (S : List Int) (w : World) (hv : w.cell? ⟨g, 0, none⟩ = some (.map (some b))) (hm : MapIs w b n S) (hx : WfI q.i) : Calls Try.prog 85 (#[q.val] ++ #[.pointer (some ⟨g, 0, none⟩)]) w fun e w' => e = .returned (.bool (decide (q.i ∈ S))) ∧ Below w.heap.size w w' := by
  obtain ⟨r, hr⟩ : ∃ r, decide (q.i ∈ S) = r := ⟨_, rfl⟩
  have a0 : (w.alloc (.cells #[.int .i64 q.i, .int .i64 q.v, .int .i64 q.n, .slice q.lo.a q.lo.l.length q.lo.c, .slice q.hi.a q.hi.l.length q.hi.c] 108)).cell? ⟨g, 0, none⟩ = some (.map (some b)) := (Below.cell (p := ⟨g, 0, none⟩) (below_new w _) (cell_inT hv)).trans hv
  have hl := (hm.alloc (.cells #[.int .i64 q.i, .int .i64 q.v, .int .i64 q.n, .slice q.lo.a q.lo.l.length q.lo.c, .slice q.hi.a q.hi.l.length q.hi.c] 108)).look q.i hx
  have B0 := Lib.hid (below_new w (.cells #[.int .i64 q.i, .int .i64 q.v, .int .i64 q.n, .slice q.lo.a q.lo.l.length q.lo.c, .slice q.hi.a q.hi.l.length q.hi.c] 108))
  rw [hr] at hl ⊢
  clear hr
  unfold Ta.val
  clear hv hm
  go_enter Try.func85, Try.ntmps85
  go_wp2_with fail
  go_ret
  exact ⟨rfl, B0.out.alloc (by simp) _⟩
end Go.Proofs.Ytcffpkflijpdjaa
namespace Go.Proofs.Ytcffpkflijpdjaa
open Go.RowKit
def lowB (lev : Int) (lo hi : List Int) (q : Ta) : Bool := decide (lev < q.v) && ovB lo hi q
/-- What the second closure finds. -/
structure Bot2 (W : World) (g5 g10 : Nat) (lev : Int) (gh gl : Nat) (lo hi : Sl) : Prop where
  lv : W.cell? ⟨g5, 0, none⟩ = some (.int .i64 lev)
  fn : W.cell? ⟨g10, 0, none⟩ = some (.func (.func 91) #[] #[.pointer (some ⟨gh, 0, none⟩), .pointer (some ⟨gl, 0, none⟩)])
  oh : W.cell? ⟨gh, 0, none⟩ = some hi.val
  ol : W.cell? ⟨gl, 0, none⟩ = some lo.val
  li : In W lo.a lo.l lo.l.length lo.c
  hi_ : In W hi.a hi.l hi.l.length hi.c
theorem Bot2.kept {W W' : World} {g5 g10 gh gl : Nat} {lev : Int} {lo hi : Sl} (h : Bot2 W g5 g10 lev gh gl lo hi) (hb : Below W.heap.size W W') : Bot2 W' g5 g10 lev gh gl lo hi :=
  ⟨(Below.cell (p := ⟨g5, 0, none⟩) hb (cell_inT h.lv)).trans h.lv, (Below.cell (p := ⟨g10, 0, none⟩) hb (cell_inT h.fn)).trans h.fn, (Below.cell (p := ⟨gh, 0, none⟩) hb (cell_inT h.oh)).trans h.oh, (Below.cell (p := ⟨gl, 0, none⟩) hb (cell_inT h.ol)).trans h.ol, h.li.kept hb, h.hi_.kept hb⟩
set_option maxRecDepth 100000 in
set_option maxHeartbeats 4000000 in
theorem bot2_any (q : Ta) (g5 g10 gh gl : Nat) (lev : Int) (lo hi : Sl) (w : World) (h : Bot2 w g5 g10 lev gh gl lo hi) (hq : TIns w [q]) : Calls Try.prog 87 (#[q.val] ++ #[.pointer (some ⟨g5, 0, none⟩), .pointer (some ⟨g10, 0, none⟩)]) w fun e w' => e = .returned (.bool (lowB lev lo.l hi.l q)) ∧ Below w.heap.size w w' := by
  obtain ⟨w1, hw1⟩ : ∃ w1, w.alloc (.cells #[.int .i64 q.i, .int .i64 q.v, .int .i64 q.n, .slice q.lo.a q.lo.l.length q.lo.c, .slice q.hi.a q.hi.l.length q.hi.c] 108) = w1 := ⟨_, rfl⟩
  have B1 : Hid (Below w.heap.size w w1) := Lib.hid (hw1 ▸ below_new w _)
  have K1 := Lib.hid (h.kept B1.out)
  obtain ⟨r, hr⟩ : ∃ r, ovB lo.l hi.l q = r := ⟨_, rfl⟩
  have HOV : Hid (Calls Try.prog 91 (#[q.val] ++ #[.pointer (some ⟨gh, 0, none⟩), .pointer (some ⟨gl, 0, none⟩)]) w1 fun e w' => e = .returned (.bool r) ∧ Below w1.heap.size w1 w') := Lib.hid (hr ▸ ovC_any q lo hi gh gl w1 (hq.kept B1.out) (fun W hb => ⟨(K1.out.kept hb).oh, (K1.out.kept hb).ol⟩) K1.out.li K1.out.hi_)
  unfold Ta.val at HOV
  have a0 := K1.out.lv
  have a1 := K1.out.fn
  obtain ⟨c0, c1, c2, c3, c4⟩ := box_five (W := w1) (g := w.heap.size) (v0 := .int .i64 q.i) (v1 := .int .i64 q.v) (v2 := .int .i64 q.n) (v3 := .slice q.lo.a q.lo.l.length q.lo.c) (v4 := .slice q.hi.a q.hi.l.length q.hi.c) (t := 108) (fr := (0, 0)) (by rw [← hw1]; exact heap_alloc_new w _)
  by_cases hl : lev < q.v
  · have d1 : decide (lev < q.v) = true := decide_eq_true hl
    have d2 : decide (q.v > lev) = true := decide_eq_true hl
    have HB : Hid (lowB lev lo.l hi.l q = r) := Lib.hid (by unfold lowB; rw [d1, hr]; rfl)
    unfold Ta.val
    clear hl hr h hq
    go_enter Try.func87, Try.ntmps87
    go_upto_region 1 with fail
    try rw [hw1]
    clear hw1
    go_wp2_with (go_at_call 91; refine HOV.out.mono ?_; rintro e w2 ⟨rfl, hb⟩; have B2 := Lib.hid (below_then B1.out hb); clear hb)
    go_ret
    exact ⟨by rw [HB.out]; rfl, B2.out⟩
  · have d1 : decide (lev < q.v) = false := decide_eq_false hl
    have d2 : decide (q.v > lev) = false := decide_eq_false hl
    have HB : Hid (lowB lev lo.l hi.l q = false) := Lib.hid (by unfold lowB; rw [d1]; rfl)
    unfold Ta.val
    clear hl hr h hq
    go_enter Try.func87, Try.ntmps87
    go_upto_region 1 with fail
    try rw [hw1]
    clear hw1
    go_wp2_with fail
    go_ret
    exact ⟨by rw [HB.out]; rfl, B1.out⟩
set_option maxRecDepth 100000 in
set_option maxHeartbeats 8000000 in
theorem indexFunc_any (y1 y2 : Addr) (p : Ta → Bool) (A : Option Addr) (l : List Ta) (n c : Nat) (w : World) (hn : l.length = n) (h : Lies w A (qvals l)) (hl : n * 72 ≤ 140737488351232)
    (hf : ∀ W, Below w.heap.size w W → ∀ q ∈ l, Calls Try.prog 87 (#[q.val] ++ #[.pointer (some y1), .pointer (some y2)]) W fun e w' => e = .returned (.bool (p q)) ∧ Below W.heap.size W w') :
    Calls Try.prog 99 #[.slice A n c, .func (.func 87) #[] #[.pointer (some y1), .pointer (some y2)]] w fun e w' => ∃ r : Int, e = .returned (.int .i64 r) ∧ decide (r ≥ 0) = l.any p ∧ Below w.heap.size w w' := by
  have HP := Lib.hid (fun (w' : World) (hb : Below w.heap.size w w') => h.kept hb)
  have HN := Lib.hid hn
  have HF := Lib.hid hf
  have hl9 := hl
  clear h hn hf
  go_enter Try.func99, Try.ntmps99
  go_wp2_with fail
  go_loopw [8] (fun t8 wr => ∃ k : Nat, k ≤ n ∧ t8 = .int .i64 k ∧ Hid ((l.take k).any p = false) ∧ Hid (Below w.heap.size w wr)) (fun t8 _ => n - (intOf t8).toNat)
  case atStart => exact ⟨0, by omega, rfl, Lib.hid rfl, Lib.hid (Below.refl _ _)⟩
  case round =>
    obtain ⟨k, hk, rfl, hm, b2⟩ := hrel
    by_cases hlt : k < n
    · have hq := List.getElem?_eq_getElem (l := l) (i := k) (by have := HN.out; omega)
      generalize l[k]'(by have := HN.out; omega) = x at hq
      obtain ⟨ad, rfl, a0, a1, a2, a3, a4⟩ := lies_table (HP.out _ b2.out) hq
      have HMEM := Lib.hid (List.mem_of_getElem? hq)
      have HST : Hid ((l.take (k + 1)).any p = ((l.take k).any p || p x)) := Lib.hid (by rw [List.take_add_one, hq, List.any_append]; simp)
      obtain ⟨m, hm2⟩ : ∃ m, x.lo.l.length = m := ⟨_, rfl⟩
      obtain ⟨z, hz2⟩ : ∃ z, x.hi.l.length = z := ⟨_, rfl⟩
      rw [hm2] at a3
      rw [hz2] at a4
      have k0 : (k : Int) < n := by omega
      obtain ⟨b, hb⟩ : ∃ b, p x = b := ⟨_, rfl⟩
      have HFX : Hid (Calls Try.prog 87 (#[.agg #[.int .i64 x.i, .int .i64 x.v, .int .i64 x.n, .slice x.lo.a m x.lo.c, .slice x.hi.a z x.hi.c]] ++ #[.pointer (some y1), .pointer (some y2)]) wr fun e w' => e = .returned (.bool b) ∧ Below wr.heap.size wr w') := Lib.hid (by
        have := HF.out wr b2.out x HMEM.out
        unfold Ta.val at this
        rwa [hm2, hz2, hb] at this)
      rw [hb] at HST
      have HPX := Lib.hid hb
      clear hb hq hm2 hz2
      cases b
      · go_wp2_with (go_at_call 87; refine HFX.out.mono ?_; rintro e w6 ⟨rfl, b6⟩; have B6 := Lib.hid (below_then b2.out b6); clear b6)
        go_roundw
        case rel => exact ⟨k + 1, by omega, by go_num, Lib.hid (by rw [HST.out, hm.out]; rfl), B6⟩
        case measure => simp [intOf]; omega
      · go_wp2_with (go_at_call 87; refine HFX.out.mono ?_; rintro e w6 ⟨rfl, b6⟩; have B6 := Lib.hid (below_then b2.out b6); clear b6)
        go_ret
        exact ⟨(k : Int), rfl, by rw [decide_eq_true (by omega)]; exact (List.any_eq_true.2 ⟨x, HMEM.out, HPX.out⟩).symm, B6.out⟩
    · obtain rfl : k = n := by omega
      have e : l.take k = l := List.take_of_length_le (by have := HN.out; omega)
      rw [e] at hm
      go_wp2_with fail
      go_ret
      exact ⟨-1, rfl, by rw [hm.out]; rfl, b2.out⟩
set_option maxRecDepth 100000 in
set_option maxHeartbeats 4000000 in
theorem containsFunc_any (y1 y2 : Addr) (p : Ta → Bool) (A : Option Addr) (l : List Ta) (n c : Nat) (w : World) (hn : l.length = n) (h : Lies w A (qvals l)) (hl : n * 72 ≤ 140737488351232)
    (hf : ∀ W, Below w.heap.size w W → ∀ q ∈ l, Calls Try.prog 87 (#[q.val] ++ #[.pointer (some y1), .pointer (some y2)]) W fun e w' => e = .returned (.bool (p q)) ∧ Below W.heap.size W w') :
    Calls Try.prog 86 #[.slice A n c, .func (.func 87) #[] #[.pointer (some y1), .pointer (some y2)]] w fun e w' => e = .returned (.bool (l.any p)) ∧ Below w.heap.size w w' := by
  have HC := Lib.hid (indexFunc_any y1 y2 p A l n c w hn h hl hf)
  clear h hf
  go_enter Try.func86, Try.ntmps86
  go_wp2_with (go_at_call 99; refine HC.out.mono ?_; rintro e w1 ⟨r, rfl, hr, hb⟩; have H1 := Lib.hid (And.intro hr hb); clear hr hb)
  go_ret
  exact ⟨by rw [← H1.out.1]; rfl, H1.out.2⟩
end Go.Proofs.Ytcffpkflijpdjaa
namespace Go.Proofs.Ytcffpkflijpdjaa
open Go.RowKit
/-- While numbers are put into the map. -/
structure BS (w W : World) (A : Option Addr) (n c : Nat) (lev : Int) (g3 g5 g7 b k : Nat) (S : List Int) : Prop where
  c3 : W.cell? ⟨g3, 0, none⟩ = some (.slice A n c)
  c5 : W.cell? ⟨g5, 0, none⟩ = some (.int .i64 lev)
  c7 : W.cell? ⟨g7, 0, none⟩ = some (.map (some b))
  map : MapIs W b k S
  ne : g3 ≠ b ∧ g5 ≠ b ∧ g7 ≠ b
  lb : w.heap.size ≤ b
  bel : Below w.heap.size w W
theorem cell_grown {W W' : World} {b g : Nat} {v : Value} (h : W.cell? ⟨g, 0, none⟩ = some v) (hg : W.grownBy W' (some b)) (hn : g ≠ b) : W'.cell? ⟨g, 0, none⟩ = some v :=
  (World.cell?_of_block (w := W) (w' := W') (a := ⟨g, 0, none⟩) (hg.block g (cell_inT h) (fun e => by first | exact hn (Option.some.inj e) | exact hn (Option.some.inj e).symm))).trans h
theorem BS.put {w W W' : World} {A : Option Addr} {n c : Nat} {lev : Int} {g3 g5 g7 b k : Nat} {S : List Int} {x : Int} (h : BS w W A n c lev g3 g5 g7 b k S) (hm : MapIs W' b (k + 1) (S ++ [x])) (hg : W.grownBy W' (some b)) : BS w W' A n c lev g3 g5 g7 b (k + 1) (S ++ [x]) :=
  ⟨cell_grown h.c3 hg h.ne.1, cell_grown h.c5 hg h.ne.2.1, cell_grown h.c7 hg h.ne.2.2, hm, h.ne, h.lb, h.bel.trans (grown_below hg h.lb h.bel.size)⟩
theorem BS.kept {w W W' : World} {A : Option Addr} {n c : Nat} {lev : Int} {g3 g5 g7 b k : Nat} {S : List Int} (h : BS w W A n c lev g3 g5 g7 b k S) (hb : Below W.heap.size W W') : BS w W' A n c lev g3 g5 g7 b k S :=
  ⟨(Below.cell (p := ⟨g3, 0, none⟩) hb (cell_inT h.c3)).trans h.c3, (Below.cell (p := ⟨g5, 0, none⟩) hb (cell_inT h.c5)).trans h.c5, (Below.cell (p := ⟨g7, 0, none⟩) hb (cell_inT h.c7)).trans h.c7, h.map.kept hb, h.ne, h.lb, below_then h.bel hb⟩
theorem BS.new (w : World) (A : Option Addr) (n c : Nat) (x1 x2 x3 lev : Int) : BS w ((((w.alloc (.cells #[.slice A n c, .int .i64 x1, .int .i64 x2, .int .i64 x3] 82)).alloc (.cells #[.int .i64 lev] 3)).alloc (.map #[] 0)).alloc (.cells #[.map (some (w.heap.size + 2))] 131)) A n c lev w.heap.size (w.heap.size + 1) (w.heap.size + 3) (w.heap.size + 2) 0 [] := by
  obtain ⟨hq, hs, hb⟩ := allocs_get [.cells #[.slice A n c, .int .i64 x1, .int .i64 x2, .int .i64 x3] 82, .cells #[.int .i64 lev] 3, .map #[] 0, .cells #[.map (some (w.heap.size + 2))] 131] w
  have q0 := hq 0 _ rfl
  have q1 := hq 1 _ rfl
  have q2 := hq 2 _ rfl
  have q3 := hq 3 _ rfl
  simp only [List.foldl_cons, List.foldl_nil, Nat.add_zero] at hb q0 q1 q2 q3
  refine ⟨by unfold World.cell?; simp only; rw [q0]; rfl, by unfold World.cell?; simp only; rw [q1]; rfl, by unfold World.cell?; simp only; rw [q3]; rfl, ?_, ⟨by omega, by omega, by omega⟩, by omega, hb⟩
  have := (MapIs.new ((w.alloc (.cells #[.slice A n c, .int .i64 x1, .int .i64 x2, .int .i64 x3] 82)).alloc (.cells #[.int .i64 lev] 3))).alloc (.cells #[.map (some (w.heap.size + 2))] 131)
  rw [World.size_alloc, World.size_alloc] at this
  exact this
/-- Tables with these numbers. -/
def inB' (S : List Int) (q : Ta) : Bool := decide (q.i ∈ S)
def botB (T : List Ta) (S : List Int) (lev : Int) : Bool := !(T.any (lowB lev (loP (T.filter (inB' S))) (hiP (T.filter (inB' S)))))
set_option maxRecDepth 100000 in
set_option maxHeartbeats 8000000 in
theorem bottom_any (A : Option Addr) (T : List Ta) (n c : Nat) (x1 x2 x3 lev : Int) (gi m cm : Nat) (S : List Int) (w : World) (h : TsIn w A T n c) (hwT : ∀ q ∈ T, WfI q.i) (hS : S.length = m) (hwS : ∀ x ∈ S, WfI x) (hc : ∀ j x, S[j]? = some x → w.cell? ⟨gi, j, none⟩ = some (.int .i64 x)) (hm9 : m * 8 ≤ 140737488351232) (h0 : T.filter (inB' S) ≠ []) :
    Calls Try.prog 63 #[.agg #[.slice A n c, .int .i64 x1, .int .i64 x2, .int .i64 x3], .slice (some ⟨gi, 0, none⟩) m cm, .int .i64 lev] w fun e w' => e = .returned (.bool (botB T S lev)) ∧ Below w.heap.size w w' := by
  have HH := Lib.hid h
  have HWT := Lib.hid hwT
  have HS := Lib.hid (And.intro hS hwS)
  have HCI := Lib.hid hc
  have H0 := Lib.hid h0
  obtain ⟨w4, hw4⟩ : ∃ w4, ((((w.alloc (.cells #[.slice A n c, .int .i64 x1, .int .i64 x2, .int .i64 x3] 82)).alloc (.cells #[.int .i64 lev] 3)).alloc (.map #[] 0)).alloc (.cells #[.map (some (w.heap.size + 2))] 131)) = w4 := ⟨_, rfl⟩
  have B4 : Hid (BS w w4 A n c lev w.heap.size (w.heap.size + 1) (w.heap.size + 3) (w.heap.size + 2) 0 []) := Lib.hid (hw4 ▸ BS.new w A n c x1 x2 x3 lev)
  clear h hwT hS hwS hc h0
  have hmm := @run_makeMap Try.prog
  go_enter Try.func63, Try.ntmps63
  go_upto_region 2 with fail
  try rw [hw4]
  clear hw4
  go_wp2_with fail
  go_loopw [14] (fun t14 wr => ∃ k : Nat, k ≤ m ∧ t14 = .int .i64 k ∧ Hid (BS w wr A n c lev w.heap.size (w.heap.size + 1) (w.heap.size + 3) (w.heap.size + 2) k (S.take k))) (fun t14 _ => m - (intOf t14).toNat)
  case atStart => exact ⟨0, by omega, rfl, B4⟩
  case round =>
    obtain ⟨k, hk, rfl, hr⟩ := hrel
    by_cases hlt : k < m
    · have hq := List.getElem?_eq_getElem (l := S) (i := k) (by have := HS.out.1; omega)
      generalize S[k]'(by have := HS.out.1; omega) = x at hq
      have a0 : wr.cell? ⟨gi, k, none⟩ = some (.int .i64 x) := (Below.cell (p := ⟨gi, k, none⟩) hr.out.bel (cell_inT (HCI.out k x hq))).trans (HCI.out k x hq)
      have a1 : wr.cell? ((⟨gi, 0, none⟩ : Addr).add k) = some (.int .i64 x) := by rw [add_head]; exact a0
      have c7 := hr.out.c7
      have k0 : (k : Int) < m := by omega
      obtain ⟨w5, hrun, hmap, hgr⟩ := hr.out.map.put x (HS.out.2 x (List.mem_of_getElem? hq)) (by unfold maxLen; omega)
      have HTK : Hid (S.take (k + 1) = S.take k ++ [x]) := Lib.hid (by rw [List.take_add_one, hq]; rfl)
      have H5 := Lib.hid (hr.out.put hmap hgr)
      clear hmap hgr hq
      go_wp2_with fail
      go_roundw
      case rel => exact ⟨k + 1, by omega, by go_num, Lib.hid (by rw [HTK.out]; exact H5.out)⟩
      case measure => simp [intOf]; omega
    · obtain rfl : k = m := by omega
      have e : S.take k = S := List.take_of_length_le (by have := HS.out.1; omega)
      rw [e] at hr
      have c3 := hr.out.c3
      obtain ⟨U, hU⟩ : ∃ U, T.filter (inB' S) = U := ⟨_, rfl⟩
      have HB : Hid (botB T S lev = !(T.any (lowB lev (loP U) (hiP U)))) := Lib.hid (by unfold botB; rw [hU])
      have HUM : Hid (U ≠ [] ∧ (∀ q ∈ U, q ∈ T) ∧ U.length ≤ n) := Lib.hid (by subst hU; exact ⟨H0.out, fun q hq => (List.mem_filter.1 hq).1, by have := len_at (inB' S) T; rw [HH.out.len] at this; exact this⟩)
      have HCH : Hid (Calls Try.prog 70 #[.slice A n c, .func (.func 85) #[] #[.pointer (some ⟨w.heap.size + 3, 0, none⟩)]] wr fun e w' => ∃ (A' : Option Addr) (m' c' : Nat), e = .returned (.slice A' m' c') ∧ Hid (U.length = m' ∧ Trow w' wr.heap.size A' c' U ∧ Below wr.heap.size wr w')) := Lib.hid ((chosenB_any ⟨w.heap.size + 3, 0, none⟩ (inB' S) A T n c wr HH.out.len (HH.out.lies.kept hr.out.bel) (by have := HH.out.few; omega) (fun W hb q hq => bot1_any q (w.heap.size + 3) (w.heap.size + 2) k S W (hr.out.kept hb).c7 (hr.out.kept hb).map (HWT.out q hq))).mono fun e w' hc => by
        obtain ⟨A', m', c', h1, h2, h3, h4⟩ := hc
        rw [hU] at h2 h3
        exact ⟨A', m', c', h1, Lib.hid ⟨h2, h3, h4⟩⟩)
      clear hU e
      go_upto_region 8 with (first
        | (go_at_call 70; refine HCH.out.mono ?_; rintro e w5 ⟨A5, m5, c5, rfl, E5⟩)
        | (go_at_call 71; refine (overlapping_any A5 U m5 c5 w5 E5.out.1 E5.out.2.1.lies (((HH.out.ins.kept hr.out.bel).kept E5.out.2.2).sub HUM.out.2.1) (by have := (own_cap E5.out.2.1).1; rw [E5.out.1] at this; exact this) (by have := HUM.out.2.2; have := HH.out.few; have := E5.out.1; omega) (by have := E5.out.1; have := List.length_pos_iff.2 HUM.out.1; omega)).mono ?_; rintro e w6 ⟨gh, gl, lo, hi, rfl, e1, e2, e3⟩; have E6 : Hid (Endz w5 w6 gl gh lo hi ∧ lo.l = loP U ∧ hi.l = hiP U) := Lib.hid ⟨e1, e2, e3⟩; clear e1 e2 e3))
      obtain ⟨w7, hw7⟩ : ∃ w7, w6.alloc (.cells #[.func (.func 91) #[] #[.pointer (some ⟨gh, 0, none⟩), .pointer (some ⟨gl, 0, none⟩)]] 117) = w7 := ⟨_, rfl⟩
      have B76 : Hid (Below w6.heap.size w6 w7) := Lib.hid (hw7 ▸ below_new w6 _)
      have B67 : Hid (Below wr.heap.size wr w6) := Lib.hid (below_then E5.out.2.2 E6.out.1.bel)
      have H7 : Hid (Bot2 w7 (w.heap.size + 1) w6.heap.size lev gh gl lo hi) := Lib.hid (by
        have k6 := hr.out.kept B67.out
        have k7 := k6.kept B76.out
        have e7 := E6.out.1.kept B76.out
        have hn := heap_alloc_new w6 (.cells #[.func (.func 91) #[] #[.pointer (some ⟨gh, 0, none⟩), .pointer (some ⟨gl, 0, none⟩)]] 117)
        rw [hw7] at hn
        exact ⟨k7.c5, by unfold World.cell?; simp only; rw [hn]; rfl, e7.cells.1.2, e7.cells.1.1, (E6.out.1.lin.kept E6.out.1.bel).kept B76.out, (E6.out.1.hin.kept E6.out.1.bel).kept B76.out⟩)
      have B7 : Hid (Below w.heap.size w w7) := Lib.hid (below_then hr.out.bel (below_then B67.out B76.out))
      have HCF : Hid (Calls Try.prog 86 #[.slice A n c, .func (.func 87) #[] #[.pointer (some ⟨w.heap.size + 1, 0, none⟩), .pointer (some ⟨w6.heap.size, 0, none⟩)]] w7 fun e w' => e = .returned (.bool (T.any (lowB lev (loP U) (hiP U)))) ∧ Below w7.heap.size w7 w') := Lib.hid (by
        have := containsFunc_any ⟨w.heap.size + 1, 0, none⟩ ⟨w6.heap.size, 0, none⟩ (lowB lev lo.l hi.l) A T n c w7 HH.out.len (HH.out.lies.kept B7.out) (by have := HH.out.few; omega) (fun W hb q hq => bot2_any q (w.heap.size + 1) w6.heap.size gh gl lev lo hi W (H7.out.kept hb) ((HH.out.ins.kept (below_then B7.out hb)).one hq))
        rwa [E6.out.2.1, E6.out.2.2] at this)
      obtain ⟨z, hz⟩ : ∃ z, w6.heap.size = z := ⟨_, rfl⟩
      obtain ⟨r, hr2⟩ : ∃ r, T.any (lowB lev (loP U) (hiP U)) = r := ⟨_, rfl⟩
      have c3 := ((hr.out.kept B67.out).kept B76.out).c3
      rw [hr2] at HCF HB
      try rw [hw7]
      rw [hz] at HCF
      try rw [hz]
      clear hw7 hz hr2
      go_wp2_with (go_at_call 86; refine HCF.out.mono ?_; rintro e w8 ⟨rfl, hb⟩; have B8 := Lib.hid (below_then B7.out hb); clear hb)
      go_ret
      exact ⟨by rw [HB.out]; rfl, B8.out⟩
end Go.Proofs.Ytcffpkflijpdjaa
namespace Go.Proofs.Ytcffpkflijpdjaa
open Go.RowKit
def inB (n l m : Int) : Bool := decide (l ≤ n) && decide (n ≤ m)
/-- May these options be? -/
def optB (mem size blk fan : Int) (hs : Nat) : Bool := inB mem 1 4096 && inB size 1 4096 && inB blk 1 1024 && inB fan 2 16 && decide ((hs : Int) ≤ 64)
def optE (mem size blk fan : Int) (hs : Nat) : Int := if optB mem size blk fan hs = true then 0 else 2
set_option maxRecDepth 100000 in
set_option maxHeartbeats 4000000 in
theorem isWithin_any (n l m : Int) (w : World) : Calls Try.prog 64 #[.int .i64 n, .int .i64 l, .int .i64 m] w fun e w' => e = .returned (.bool (inB n l m)) ∧ w' = w := by
  by_cases h1 : l ≤ n
  · have d1 : decide (l ≤ n) = true := decide_eq_true h1
    obtain ⟨b, hb⟩ : ∃ b, decide (n ≤ m) = b := ⟨_, rfl⟩
    have HB : Hid (inB n l m = b) := Lib.hid (by unfold inB; rw [d1, hb]; rfl)
    clear h1
    go_enter Try.func64, Try.ntmps64
    go_wp2_with fail
    go_ret
    exact ⟨by rw [HB.out, ← hb]; rfl, rfl⟩
  · have d1 : decide (l ≤ n) = false := decide_eq_false h1
    have HB : Hid (inB n l m = false) := Lib.hid (by unfold inB; rw [d1]; rfl)
    clear h1
    go_enter Try.func64, Try.ntmps64
    go_wp2_with fail
    go_ret
    exact ⟨by rw [HB.out]; rfl, rfl⟩
theorem box_five' {W : World} {w : World} {v0 v1 v2 v3 v4 : Value} {t : TypeId} (hb : Below (w.alloc (.cells #[v0, v1, v2, v3, v4] t)).heap.size (w.alloc (.cells #[v0, v1, v2, v3, v4] t)) W) : W.cell? ⟨w.heap.size, 0, none⟩ = some v0 ∧ W.cell? ⟨w.heap.size, 1, none⟩ = some v1 ∧ W.cell? ⟨w.heap.size, 2, none⟩ = some v2 ∧ W.cell? ⟨w.heap.size, 3, none⟩ = some v3 ∧ W.cell? ⟨w.heap.size, 4, none⟩ = some v4 :=
  box_five ((hb.block w.heap.size (by simp)).trans (heap_alloc_new w _))
set_option maxRecDepth 100000 in
set_option maxHeartbeats 4000000 in
theorem check_any (mem size blk fan : Int) (A : Option Addr) (n c : Nat) (w : World) : Calls Try.prog 38 #[.agg #[.int .i64 mem, .int .i64 size, .int .i64 blk, .int .i64 fan, .slice A n c]] w fun e w' => e = .returned (.int .i64 (optE mem size blk fan n)) ∧ Below w.heap.size w w' := by
  obtain ⟨w1, hw1⟩ : ∃ w1, w.alloc (.cells #[.int .i64 mem, .int .i64 size, .int .i64 blk, .int .i64 fan, .slice A n c] 67) = w1 := ⟨_, rfl⟩
  have B1 : Hid (Below w.heap.size w w1) := Lib.hid (hw1 ▸ below_new w _)
  obtain ⟨c0, c1, c2, c3, c4⟩ := box_five' (w := w) (W := w1) (v0 := .int .i64 mem) (v1 := .int .i64 size) (v2 := .int .i64 blk) (v3 := .int .i64 fan) (v4 := .slice A n c) (t := 67) (by rw [hw1]; exact Below.refl _ _)
  obtain ⟨b1, hb1⟩ : ∃ b, inB mem 1 4096 = b := ⟨_, rfl⟩
  obtain ⟨b2, hb2⟩ : ∃ b, inB size 1 4096 = b := ⟨_, rfl⟩
  obtain ⟨b3, hb3⟩ : ∃ b, inB blk 1 1024 = b := ⟨_, rfl⟩
  obtain ⟨b4, hb4⟩ : ∃ b, inB fan 2 16 = b := ⟨_, rfl⟩
  obtain ⟨b5, hb5⟩ : ∃ b, decide ((n : Int) ≤ 64) = b := ⟨_, rfl⟩
  have HE : Hid (optE mem size blk fan n = if (b1 && b2 && b3 && b4 && b5) = true then 0 else 2) := Lib.hid (by unfold optE optB; rw [hb1, hb2, hb3, hb4, hb5])
  have HW1 : Hid (∀ W, Calls Try.prog 64 #[.int .i64 mem, .int .i64 1, .int .i64 4096] W fun e w' => e = .returned (.bool b1) ∧ W = w') := Lib.hid (fun W => (isWithin_any mem 1 4096 W).mono fun _ _ h => ⟨by rw [← hb1]; exact h.1, h.2.symm⟩)
  have HW2 : Hid (∀ W, Calls Try.prog 64 #[.int .i64 size, .int .i64 1, .int .i64 4096] W fun e w' => e = .returned (.bool b2) ∧ W = w') := Lib.hid (fun W => (isWithin_any size 1 4096 W).mono fun _ _ h => ⟨by rw [← hb2]; exact h.1, h.2.symm⟩)
  have HW3 : Hid (∀ W, Calls Try.prog 64 #[.int .i64 blk, .int .i64 1, .int .i64 1024] W fun e w' => e = .returned (.bool b3) ∧ W = w') := Lib.hid (fun W => (isWithin_any blk 1 1024 W).mono fun _ _ h => ⟨by rw [← hb3]; exact h.1, h.2.symm⟩)
  have HW4 : Hid (∀ W, Calls Try.prog 64 #[.int .i64 fan, .int .i64 2, .int .i64 16] W fun e w' => e = .returned (.bool b4) ∧ W = w') := Lib.hid (fun W => (isWithin_any fan 2 16 W).mono fun _ _ h => ⟨by rw [← hb4]; exact h.1, h.2.symm⟩)
  clear hb1 hb2 hb3 hb4
  cases b1
  · go_enter Try.func38, Try.ntmps38
    go_upto_region 1 with fail
    try rw [hw1]
    clear hw1
    go_wp2_with (first
      | (go_at_call 64; with_reducible refine (HW1.out _).mono ?_; rintro e w' ⟨rfl, rfl⟩)
      | (go_at_call 64; with_reducible refine (HW2.out _).mono ?_; rintro e w' ⟨rfl, rfl⟩)
      | (go_at_call 64; with_reducible refine (HW3.out _).mono ?_; rintro e w' ⟨rfl, rfl⟩)
      | (go_at_call 64; with_reducible refine (HW4.out _).mono ?_; rintro e w' ⟨rfl, rfl⟩))
    go_ret
    exact ⟨by rw [HE.out]; rfl, B1.out⟩
  cases b2
  · go_enter Try.func38, Try.ntmps38
    go_upto_region 1 with fail
    try rw [hw1]
    clear hw1
    go_wp2_with (first
      | (go_at_call 64; with_reducible refine (HW1.out _).mono ?_; rintro e w' ⟨rfl, rfl⟩)
      | (go_at_call 64; with_reducible refine (HW2.out _).mono ?_; rintro e w' ⟨rfl, rfl⟩)
      | (go_at_call 64; with_reducible refine (HW3.out _).mono ?_; rintro e w' ⟨rfl, rfl⟩)
      | (go_at_call 64; with_reducible refine (HW4.out _).mono ?_; rintro e w' ⟨rfl, rfl⟩))
    go_ret
    exact ⟨by rw [HE.out]; rfl, B1.out⟩
  cases b3
  · go_enter Try.func38, Try.ntmps38
    go_upto_region 1 with fail
    try rw [hw1]
    clear hw1
    go_wp2_with (first
      | (go_at_call 64; with_reducible refine (HW1.out _).mono ?_; rintro e w' ⟨rfl, rfl⟩)
      | (go_at_call 64; with_reducible refine (HW2.out _).mono ?_; rintro e w' ⟨rfl, rfl⟩)
      | (go_at_call 64; with_reducible refine (HW3.out _).mono ?_; rintro e w' ⟨rfl, rfl⟩)
      | (go_at_call 64; with_reducible refine (HW4.out _).mono ?_; rintro e w' ⟨rfl, rfl⟩))
    go_ret
    exact ⟨by rw [HE.out]; rfl, B1.out⟩
  cases b4
  · go_enter Try.func38, Try.ntmps38
    go_upto_region 1 with fail
    try rw [hw1]
    clear hw1
    go_wp2_with (first
      | (go_at_call 64; with_reducible refine (HW1.out _).mono ?_; rintro e w' ⟨rfl, rfl⟩)
      | (go_at_call 64; with_reducible refine (HW2.out _).mono ?_; rintro e w' ⟨rfl, rfl⟩)
      | (go_at_call 64; with_reducible refine (HW3.out _).mono ?_; rintro e w' ⟨rfl, rfl⟩)
      | (go_at_call 64; with_reducible refine (HW4.out _).mono ?_; rintro e w' ⟨rfl, rfl⟩))
    go_ret
    exact ⟨by rw [HE.out]; rfl, B1.out⟩
  cases b5
  · go_enter Try.func38, Try.ntmps38
    go_upto_region 1 with fail
    try rw [hw1]
    clear hw1
    go_wp2_with (first
      | (go_at_call 64; with_reducible refine (HW1.out _).mono ?_; rintro e w' ⟨rfl, rfl⟩)
      | (go_at_call 64; with_reducible refine (HW2.out _).mono ?_; rintro e w' ⟨rfl, rfl⟩)
      | (go_at_call 64; with_reducible refine (HW3.out _).mono ?_; rintro e w' ⟨rfl, rfl⟩)
      | (go_at_call 64; with_reducible refine (HW4.out _).mono ?_; rintro e w' ⟨rfl, rfl⟩))
    go_ret
    exact ⟨by rw [HE.out]; rfl, B1.out⟩
  go_enter Try.func38, Try.ntmps38
  go_upto_region 1 with fail
  try rw [hw1]
  clear hw1
  go_wp2_with (first
    | (go_at_call 64; with_reducible refine (HW1.out _).mono ?_; rintro e w' ⟨rfl, rfl⟩)
    | (go_at_call 64; with_reducible refine (HW2.out _).mono ?_; rintro e w' ⟨rfl, rfl⟩)
    | (go_at_call 64; with_reducible refine (HW3.out _).mono ?_; rintro e w' ⟨rfl, rfl⟩)
    | (go_at_call 64; with_reducible refine (HW4.out _).mono ?_; rintro e w' ⟨rfl, rfl⟩))
  go_ret
  exact ⟨by rw [HE.out]; rfl, B1.out⟩
set_option maxRecDepth 100000 in
set_option maxHeartbeats 4000000 in
theorem refCheck_any (mem size blk fan : Int) (A : Option Addr) (n c : Nat) (w : World) : Calls Try.prog 39 #[.agg #[.int .i64 mem, .int .i64 size, .int .i64 blk, .int .i64 fan, .slice A n c]] w fun e w' => e = .returned (.int .i64 (optE mem size blk fan n)) ∧ Below w.heap.size w w' := by
  obtain ⟨w1, hw1⟩ : ∃ w1, w.alloc (.cells #[.int .i64 mem, .int .i64 size, .int .i64 blk, .int .i64 fan, .slice A n c] 67) = w1 := ⟨_, rfl⟩
  have B1 : Hid (Below w.heap.size w w1) := Lib.hid (hw1 ▸ below_new w _)
  obtain ⟨c0, c1, c2, c3, c4⟩ := box_five' (w := w) (W := w1) (v0 := .int .i64 mem) (v1 := .int .i64 size) (v2 := .int .i64 blk) (v3 := .int .i64 fan) (v4 := .slice A n c) (t := 67) (by rw [hw1]; exact Below.refl _ _)
  obtain ⟨v, hv⟩ : ∃ v, optE mem size blk fan n = v := ⟨_, rfl⟩
  have HV := Lib.hid hv
  rw [hv]
  clear hv
  by_cases h0 : mem < 1
  · have d0 : decide (mem < 1) = true := decide_eq_true h0
    have HE : Hid (v = 2) := Lib.hid (by rw [← HV.out]; unfold optE optB inB; rw [if_neg]; simp; omega)
    go_enter Try.func39, Try.ntmps39
    go_upto_region 1 with fail
    try rw [hw1]
    clear hw1
    go_wp2_with fail
    go_ret
    exact ⟨by rw [HE.out]; rfl, B1.out⟩
  have d0 : decide (mem < 1) = false := decide_eq_false h0
  by_cases h1 : mem > 4096
  · have d1 : decide (mem > 4096) = true := decide_eq_true h1
    have e1 : decide (4096 < mem) = true := decide_eq_true h1
    have HE : Hid (v = 2) := Lib.hid (by rw [← HV.out]; unfold optE optB inB; rw [if_neg]; simp; omega)
    go_enter Try.func39, Try.ntmps39
    go_upto_region 1 with fail
    try rw [hw1]
    clear hw1
    go_wp2_with fail
    go_ret
    exact ⟨by rw [HE.out]; rfl, B1.out⟩
  have d1 : decide (mem > 4096) = false := decide_eq_false h1
  have e1 : decide (4096 < mem) = false := decide_eq_false h1
  by_cases h2 : size < 1
  · have d2 : decide (size < 1) = true := decide_eq_true h2
    have HE : Hid (v = 2) := Lib.hid (by rw [← HV.out]; unfold optE optB inB; rw [if_neg]; simp; omega)
    go_enter Try.func39, Try.ntmps39
    go_upto_region 1 with fail
    try rw [hw1]
    clear hw1
    go_wp2_with fail
    go_ret
    exact ⟨by rw [HE.out]; rfl, B1.out⟩
  have d2 : decide (size < 1) = false := decide_eq_false h2
  by_cases h3 : size > 4096
  · have d3 : decide (size > 4096) = true := decide_eq_true h3
    have e3 : decide (4096 < size) = true := decide_eq_true h3
    have HE : Hid (v = 2) := Lib.hid (by rw [← HV.out]; unfold optE optB inB; rw [if_neg]; simp; omega)
    go_enter Try.func39, Try.ntmps39
    go_upto_region 1 with fail
    try rw [hw1]
    clear hw1
    go_wp2_with fail
    go_ret
    exact ⟨by rw [HE.out]; rfl, B1.out⟩
  have d3 : decide (size > 4096) = false := decide_eq_false h3
  have e3 : decide (4096 < size) = false := decide_eq_false h3
  by_cases h4 : blk < 1
  · have d4 : decide (blk < 1) = true := decide_eq_true h4
    have HE : Hid (v = 2) := Lib.hid (by rw [← HV.out]; unfold optE optB inB; rw [if_neg]; simp; omega)
    go_enter Try.func39, Try.ntmps39
    go_upto_region 1 with fail
    try rw [hw1]
    clear hw1
    go_wp2_with fail
    go_ret
    exact ⟨by rw [HE.out]; rfl, B1.out⟩
  have d4 : decide (blk < 1) = false := decide_eq_false h4
  by_cases h5 : blk > 1024
  · have d5 : decide (blk > 1024) = true := decide_eq_true h5
    have e5 : decide (1024 < blk) = true := decide_eq_true h5
    have HE : Hid (v = 2) := Lib.hid (by rw [← HV.out]; unfold optE optB inB; rw [if_neg]; simp; omega)
    go_enter Try.func39, Try.ntmps39
    go_upto_region 1 with fail
    try rw [hw1]
    clear hw1
    go_wp2_with fail
    go_ret
    exact ⟨by rw [HE.out]; rfl, B1.out⟩
  have d5 : decide (blk > 1024) = false := decide_eq_false h5
  have e5 : decide (1024 < blk) = false := decide_eq_false h5
  by_cases h6 : fan < 2
  · have d6 : decide (fan < 2) = true := decide_eq_true h6
    have HE : Hid (v = 2) := Lib.hid (by rw [← HV.out]; unfold optE optB inB; rw [if_neg]; simp; omega)
    go_enter Try.func39, Try.ntmps39
    go_upto_region 1 with fail
    try rw [hw1]
    clear hw1
    go_wp2_with fail
    go_ret
    exact ⟨by rw [HE.out]; rfl, B1.out⟩
  have d6 : decide (fan < 2) = false := decide_eq_false h6
  by_cases h7 : fan > 16
  · have d7 : decide (fan > 16) = true := decide_eq_true h7
    have e7 : decide (16 < fan) = true := decide_eq_true h7
    have HE : Hid (v = 2) := Lib.hid (by rw [← HV.out]; unfold optE optB inB; rw [if_neg]; simp; omega)
    go_enter Try.func39, Try.ntmps39
    go_upto_region 1 with fail
    try rw [hw1]
    clear hw1
    go_wp2_with fail
    go_ret
    exact ⟨by rw [HE.out]; rfl, B1.out⟩
  have d7 : decide (fan > 16) = false := decide_eq_false h7
  have e7 : decide (16 < fan) = false := decide_eq_false h7
  by_cases h8 : (n : Int) > 64
  · have d8 : decide ((n : Int) > 64) = true := decide_eq_true h8
    have e8 : decide (64 < (n : Int)) = true := decide_eq_true h8
    have HE : Hid (v = 2) := Lib.hid (by rw [← HV.out]; unfold optE optB inB; rw [if_neg]; simp; omega)
    go_enter Try.func39, Try.ntmps39
    go_upto_region 1 with fail
    try rw [hw1]
    clear hw1
    go_wp2_with fail
    go_ret
    exact ⟨by rw [HE.out]; rfl, B1.out⟩
  have d8 : decide ((n : Int) > 64) = false := decide_eq_false h8
  have e8 : decide (64 < (n : Int)) = false := decide_eq_false h8
  have HE : Hid (v = 0) := Lib.hid (by rw [← HV.out]; unfold optE optB inB; rw [if_pos]; simp; omega)
  go_enter Try.func39, Try.ntmps39
  go_upto_region 1 with fail
  try rw [hw1]
  clear hw1
  go_wp2_with fail
  go_ret
  exact ⟨by rw [HE.out]; rfl, B1.out⟩
end Go.Proofs.Ytcffpkflijpdjaa
namespace Go.Proofs.Ytcffpkflijpdjaa
open Go.RowKit
/-- The law's own three entries. -/
def L4 : List Er := [([97], 3, false, []), ([97], 2, false, []), ([98], 1, false, [])]
theorem L4_ord : OrdL L4 := by decide +kernel
def l4w (z : Nat) : List En := [⟨⟨some ⟨z, 0, none⟩, 1, [97]⟩, 3, false, ⟨none, 0, []⟩⟩, ⟨⟨some ⟨z + 1, 0, none⟩, 1, [97]⟩, 2, false, ⟨none, 0, []⟩⟩, ⟨⟨some ⟨z + 2, 0, none⟩, 1, [98]⟩, 1, false, ⟨none, 0, []⟩⟩]
def At4 (z : Nat) (W : World) : Prop := W.heap[z]? = some (.cells #[.int .u8 97] 5 (1, 2)) ∧ W.heap[z + 1]? = some (.cells #[.int .u8 97] 5 (1, 2)) ∧ W.heap[z + 2]? = some (.cells #[.int .u8 98] 5 (1, 2)) ∧ W.heap[z + 3]? = some (.cells #[.slice (some ⟨z, 0, none⟩) 1 1, .int .i64 3, .bool false, .slice none 0 0, .slice (some ⟨z + 1, 0, none⟩) 1 1, .int .i64 2, .bool false, .slice none 0 0, .slice (some ⟨z + 2, 0, none⟩) 1 1, .int .i64 1, .bool false, .slice none 0 0] 26 (0, 0))
theorem At4.kept {z : Nat} {W W' : World} (h : At4 z W) (hb : Below W.heap.size W W') : At4 z W' :=
  ⟨obj_kept h.1 hb (Nat.le_refl _), obj_kept h.2.1 hb (Nat.le_refl _), obj_kept h.2.2.1 hb (Nat.le_refl _), obj_kept h.2.2.2 hb (Nat.le_refl _)⟩
theorem L4_small : ∀ x ∈ L4, FitE x ∧ x.1.length ≤ 140737488351232 ∧ x.2.2.2.length ≤ 140737488351232 := fun x hx => by
  simp only [L4, List.mem_cons, List.mem_nil_iff, or_false] at hx
  unfold FitE
  rcases hx with rfl | rfl | rfl <;> refine ⟨⟨by simp, by simp⟩, by simp, by simp⟩
theorem At4.ef {z : Nat} {W : World} (h : At4 z W) : EF W (some ⟨z + 3, 0, none⟩) (l4w z) 3 3 := by
  obtain ⟨h0, h1, h2, h4⟩ := h
  refine ⟨rfl, row_lies h4 rfl, fun q hq => ?_, by decide, fun x hx => (L4_small x hx).1, fun x hx => (L4_small x hx).2⟩
  simp only [l4w, List.mem_cons, List.mem_nil_iff, or_false] at hq
  rcases hq with rfl | rfl | rfl
  · exact ⟨one_at h0 (by decide), in_nil W⟩
  · exact ⟨one_at h1 (by decide), in_nil W⟩
  · exact ⟨one_at h2 (by decide), in_nil W⟩
/-- One list in a literal. -/
theorem lf_one {w : World} {A1 : Option Addr} {l1 : List En} {n1 c1 : Nat} (h1 : EF w A1 l1 n1 c1) (k1 : n1 ≤ c1 ∧ (c1 : Int) ≤ 9223372036854775807) :
    LF (w.alloc (.cells #[.slice A1 n1 c1] 22)) (some ⟨w.heap.size, 0, none⟩) [⟨A1, c1, l1⟩] 1 1 := by
  have e : flat [⟨A1, c1, l1⟩] = ers l1 := by simp [flat, gets]
  have hb := below_new w (.cells #[.slice A1 n1 c1] 22)
  refine ⟨⟨rfl, ?_, fun g hg => ?_⟩, by decide, by rw [e, ers_len, h1.len]; exact h1.few, fun x hx => ?_, fun x hx => ?_⟩
  · have := lit_lies w (gvals [⟨A1, c1, l1⟩]) _ rfl 22
    simpa [gvals, Gl.val, h1.len] using this
  · rw [List.mem_singleton.1 hg]
    exact ⟨h1.lies.kept hb, h1.ins.kept hb, by simpa only [h1.len] using k1.1, k1.2⟩
  · rw [e] at hx
    exact h1.fit x hx
  · rw [e] at hx
    exact h1.long x hx
theorem ansM_4 : AnsM [L4] 0 L4 := .inr ⟨by
  intro l hl
  rw [List.mem_singleton.1 hl]
  exact L4_ord, .inl ⟨rfl, L4_ord, by simp⟩⟩
/-- Pieces, known. -/
def Kno (P : List (List Er)) (n : Nat) (w : World) (e : Ending) (w' : World) : Prop := ∃ (A' : Option Addr) (c' : Nat) (T : List Gl), e = .returned (.tuple #[.slice A' n c', .int .i64 0]) ∧ Hid (fl T = P ∧ Grow w' w.heap.size A' c' T ∧ Below w.heap.size w w')
theorem run_w {w : World} {A : Option Addr} {l : List En} {c : Nat} {m : Int} {P : List (List Er)} {n : Nat} (h : EF w A l 3 c) (k : 3 ≤ c ∧ (c : Int) ≤ 9223372036854775807) (he : ers l = L4) (hp : cutC 1 (thinE m false L4) = P) (hn : P.length = n) :
    Calls Try.prog 40 #[.slice (some ⟨w.heap.size, 0, none⟩) 1 1, .int .i64 m, .bool false, .int .i64 1] (w.alloc (.cells #[.slice A 3 c] 22)) (Kno P n w) :=
  (run_any _ _ 1 1 m 1 false _ (lf_one h k)).mono fun e w' hc => by
    obtain ⟨T, A', j, c', er, h1, h2, h3, h4, h5, h6⟩ := hc
    have e0 : fl [⟨A, c, l⟩] = [L4] := by rw [← he]; rfl
    rw [e0] at h3
    obtain ⟨e1, e2⟩ := h3.one (.inr ⟨by omega, L4, ansM_4, rfl⟩)
    rw [hp] at e2
    have ej : j = n := by rw [← h2, ← hn, ← e2, fl_length]
    subst e1 ej
    have hb := below_new w (.cells #[.slice A 3 c] 22)
    exact ⟨A', c', T, h1, Lib.hid ⟨e2, h5.mono hb.size, below_then hb h6⟩⟩
/-- The law's own tables. -/
def T4r : List Tr := [(1, 0, 1, [97], [98]), (2, 0, 1, [99], [100]), (3, 1, 1, [100], [101]), (4, 2, 1, [102], [103])]
def t4w (z : Nat) : List Ta := [⟨1, 0, 1, ⟨some ⟨z, 0, none⟩, 1, [97]⟩, ⟨some ⟨z + 1, 0, none⟩, 1, [98]⟩⟩, ⟨2, 0, 1, ⟨some ⟨z + 2, 0, none⟩, 1, [99]⟩, ⟨some ⟨z + 3, 0, none⟩, 1, [100]⟩⟩, ⟨3, 1, 1, ⟨some ⟨z + 4, 0, none⟩, 1, [100]⟩, ⟨some ⟨z + 5, 0, none⟩, 1, [101]⟩⟩, ⟨4, 2, 1, ⟨some ⟨z + 6, 0, none⟩, 1, [102]⟩, ⟨some ⟨z + 7, 0, none⟩, 1, [103]⟩⟩]
theorem t4_cases {T : List Ta} (h : trs T = T4r) : ∃ a1 c1 b1 d1 a2 c2 b2 d2 a3 c3 b3 d3 a4 c4 b4 d4, T = [⟨1, 0, 1, ⟨a1, c1, [97]⟩, ⟨b1, d1, [98]⟩⟩, ⟨2, 0, 1, ⟨a2, c2, [99]⟩, ⟨b2, d2, [100]⟩⟩, ⟨3, 1, 1, ⟨a3, c3, [100]⟩, ⟨b3, d3, [101]⟩⟩, ⟨4, 2, 1, ⟨a4, c4, [102]⟩, ⟨b4, d4, [103]⟩⟩] := by
  match T, h with
  | [⟨i1, v1, n1, ⟨a1, c1, l1⟩, ⟨b1, d1, m1⟩⟩, ⟨i2, v2, n2, ⟨a2, c2, l2⟩, ⟨b2, d2, m2⟩⟩, ⟨i3, v3, n3, ⟨a3, c3, l3⟩, ⟨b3, d3, m3⟩⟩, ⟨i4, v4, n4, ⟨a4, c4, l4⟩, ⟨b4, d4, m4⟩⟩], h =>
    simp only [trs, Ta.rd, T4r, List.map_cons, List.map_nil, List.cons.injEq, Prod.mk.injEq, and_true] at h
    obtain ⟨⟨rfl, rfl, rfl, rfl, rfl⟩, ⟨rfl, rfl, rfl, rfl, rfl⟩, ⟨rfl, rfl, rfl, rfl, rfl⟩, rfl, rfl, rfl, rfl, rfl⟩ := h
    exact ⟨a1, c1, b1, d1, a2, c2, b2, d2, a3, c3, b3, d3, a4, c4, b4, d4, rfl⟩
theorem t4_pick {T : List Ta} (h : trs T = T4r) : (T.filter (atB 0)).length = 2 ∧ (T.filter (atB 0)).map Ta.i ++ ((T.filter (atB 1)).filter (ovB (loP (T.filter (atB 0))) (hiP (T.filter (atB 0))))).map Ta.i = [1, 2, 3] := by
  obtain ⟨a1, c1, b1, d1, a2, c2, b2, d2, a3, c3, b3, d3, a4, c4, b4, d4, rfl⟩ := t4_cases h
  exact ⟨rfl, rfl⟩
theorem t4_bot {T : List Ta} {S : List Int} (h : trs T = T4r) (hS : S.Perm [1, 2, 3]) : botB T S 1 = true ∧ T.filter (inB' S) ≠ [] := by
  have e : inB' S = inB' [1, 2, 3] := by
    funext q
    unfold inB'
    exact decide_eq_decide.2 hS.mem_iff
  unfold botB
  rw [e]
  obtain ⟨a1, c1, b1, d1, a2, c2, b2, d2, a3, c3, b3, d3, a4, c4, b4, d4, rfl⟩ := t4_cases h
  exact ⟨rfl, fun h => by cases h⟩
theorem t4_wf {T : List Ta} (h : trs T = T4r) : ∀ q ∈ T, WfI q.i := by
  obtain ⟨a1, c1, b1, d1, a2, c2, b2, d2, a3, c3, b3, d3, a4, c4, b4, d4, rfl⟩ := t4_cases h
  intro q hq
  simp only [List.mem_cons, List.mem_nil_iff, or_false] at hq
  unfold WfI
  rcases hq with rfl | rfl | rfl | rfl <;> rfl
theorem t4_len {T : List Ta} (h : trs T = T4r) : T.length = 4 := by rw [← trs_len, h]; rfl
theorem TMades.ins {w : World} {B : Nat} {T : List Ta} (h : TMades w B T) (hb : ∀ q ∈ T, Byt q.lo.l ∧ Byt q.hi.l) : TIns w T := fun q hq => ⟨(h q hq).1.in_ (hb q hq).1, (h q hq).2.in_ (hb q hq).2⟩
def AtV (z : Nat) (W : World) : Prop := W.heap[z]? = some (.cells #[.int .u8 97] 5 (1, 2)) ∧ W.heap[z + 1]? = some (.cells #[.int .u8 98] 5 (1, 2)) ∧ W.heap[z + 2]? = some (.cells #[.int .u8 99] 5 (1, 2)) ∧ W.heap[z + 3]? = some (.cells #[.int .u8 100] 5 (1, 2)) ∧ W.heap[z + 4]? = some (.cells #[.int .u8 100] 5 (1, 2)) ∧ W.heap[z + 5]? = some (.cells #[.int .u8 101] 5 (1, 2)) ∧ W.heap[z + 6]? = some (.cells #[.int .u8 102] 5 (1, 2)) ∧ W.heap[z + 7]? = some (.cells #[.int .u8 103] 5 (1, 2)) ∧ W.heap[z + 8]? = some (.cells #[.int .i64 1, .int .i64 0, .int .i64 1, .slice (some ⟨z, 0, none⟩) 1 1, .slice (some ⟨z + 1, 0, none⟩) 1 1, .int .i64 2, .int .i64 0, .int .i64 1, .slice (some ⟨z + 2, 0, none⟩) 1 1, .slice (some ⟨z + 3, 0, none⟩) 1 1, .int .i64 3, .int .i64 1, .int .i64 1, .slice (some ⟨z + 4, 0, none⟩) 1 1, .slice (some ⟨z + 5, 0, none⟩) 1 1, .int .i64 4, .int .i64 2, .int .i64 1, .slice (some ⟨z + 6, 0, none⟩) 1 1, .slice (some ⟨z + 7, 0, none⟩) 1 1] 108 (0, 0)) ∧ W.heap[z + 9]? = some (.cells #[.slice (some ⟨z + 8, 0, none⟩) 4 4, .int .i64 0, .int .i64 0, .int .i64 0] 82 (0, 0))
theorem AtV.kept {z : Nat} {W W' : World} (h : AtV z W) (hb : Below W.heap.size W W') : AtV z W' := by
  obtain ⟨h0, h1, h2, h3, h4, h5, h6, h7, h8, h9⟩ := h
  exact ⟨obj_kept h0 hb (Nat.le_refl _), obj_kept h1 hb (Nat.le_refl _), obj_kept h2 hb (Nat.le_refl _), obj_kept h3 hb (Nat.le_refl _), obj_kept h4 hb (Nat.le_refl _), obj_kept h5 hb (Nat.le_refl _), obj_kept h6 hb (Nat.le_refl _), obj_kept h7 hb (Nat.le_refl _), obj_kept h8 hb (Nat.le_refl _), obj_kept h9 hb (Nat.le_refl _)⟩
theorem AtV.ts {z : Nat} {W : World} (h : AtV z W) : TsIn W (some ⟨z + 8, 0, none⟩) (t4w z) 4 4 ∧ W.cell? ⟨z + 9, 0, none⟩ = some (.slice (some ⟨z + 8, 0, none⟩) 4 4) ∧ W.cell? ⟨z + 9, 1, none⟩ = some (.int .i64 0) ∧ W.cell? ⟨z + 9, 2, none⟩ = some (.int .i64 0) ∧ W.cell? ⟨z + 9, 3, none⟩ = some (.int .i64 0) := by
  obtain ⟨h0, h1, h2, h3, h4, h5, h6, h7, h8, h9⟩ := h
  refine ⟨⟨rfl, row_lies h8 rfl, fun q hq => ?_, Nat.le_refl _, by decide⟩, box_four h9⟩
  simp only [t4w, List.mem_cons, List.mem_nil_iff, or_false] at hq
  rcases hq with rfl | rfl | rfl | rfl
  · exact ⟨one_at h0 (by decide), one_at h1 (by decide)⟩
  · exact ⟨one_at h2 (by decide), one_at h3 (by decide)⟩
  · exact ⟨one_at h4 (by decide), one_at h5 (by decide)⟩
  · exact ⟨one_at h6 (by decide), one_at h7 (by decide)⟩
end Go.Proofs.Ytcffpkflijpdjaa
