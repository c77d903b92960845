/-
  Walks: is a node ahead of an entry; how many there are. Walks: the last ones ahead of an entry, at each height. Walks: from where on; how high a tower is. Walks: an entry is put behind those that are ahead.
-/
import Derived.Laws.Small
import Derived.Test.YtcffpkflijpdjaaJO05
set_option linter.unusedSimpArgs false
set_option linter.unusedVariables false
namespace Go.Proofs.Ytcffpkflijpdjaa
open Go.RowKit
/-- Is a node ahead? None is the head's place. -/
def aheadB (N : List Nd) (i : Nat) (x : Er) : Bool := decide (i ≠ 0) && decide (ordE (eo N i) x < 0)
set_option maxRecDepth 100000 in
set_option maxHeartbeats 8000000 in
theorem misAhead_any {w : World} {t : MT} (h : MTab w t) {i : Nat} (hi : i < t.ns.length) (x : En) (hx : EIn w x) : Calls Try.prog 73 #[.pointer (some ⟨t.b, 0, none⟩), .int .i64 i, x.val] w fun e w' => e = .returned (.bool (aheadB t.ns i x.rd)) ∧ Below w.heap.size w w' := by
  obtain ⟨B, hB⟩ : ∃ B, aheadB t.ns i x.rd = B := ⟨_, rfl⟩
  rw [hB, En.val_eq]
  obtain ⟨xn, hxn⟩ : ∃ m, x.k.l.length = m := ⟨_, rfl⟩
  obtain ⟨xv, hxv⟩ : ∃ m, x.v.l.length = m := ⟨_, rfl⟩
  obtain ⟨HB1, C1⟩ := box_cells w (.slice x.k.a xn x.k.c) (.int .i64 x.s) (.bool x.d) (.slice x.v.a xv x.v.c)
  have HBX := Lib.hid C1
  obtain ⟨w1, hw1⟩ : ∃ w1, w.alloc (.cells #[.slice x.k.a xn x.k.c, .int .i64 x.s, .bool x.d, .slice x.v.a xv x.v.c] 26) = w1 := ⟨_, rfl⟩
  rw [hw1] at HBX HB1
  have HB := Lib.hid hB
  have HBEL := Lib.hid HB1
  by_cases h0 : i = 0
  · subst h0
    have HF : Hid (B = false) := Lib.hid (by rw [← hB]; simp [aheadB])
    rw [hxn, hxv]
    clear h hx hB C1 HB1 hxn hxv HB HBX
    go_enter Try.func73, Try.ntmps73
    go_upto_region 1 with fail
    try rw [hw1]
    clear hw1
    have BB : Hid (Below w.heap.size w w1) := HBEL
    refine wp_region_held (S := fun _ => True) (by kernel_rfl) ?_
    change wpAnyH _ _ _ _ _ _ _ _ (World.drew _)
    have s0 : (fun _ : World => True) w1.drew := trivial
    refine wpAnyH_take (i := 0) (v := .int .i64 0) rfl (by kernel_rfl) (by kernel_rfl) (by kernel_rfl) (fun _ _ _ h => h) (Or.inl ⟨by first | kernel_rfl | rfl, fun _ hS => by go_simp⟩) s0 ?_
    try simp only [Act.put, List.getElem_toArray, List.getElem_cons_zero, List.getElem_cons_succ, List.setIfInBounds_toArray, List.set_cons_zero, List.set_cons_succ]
    refine wpAnyH_take (i := 1) (v := .bool false) rfl (by kernel_rfl) (by kernel_rfl) (by kernel_rfl) (fun _ _ _ h => h) (Or.inl ⟨by first | kernel_rfl | rfl, fun _ hS => by go_simp⟩) s0 ?_
    try simp only [Act.put, List.getElem_toArray, List.getElem_cons_zero, List.getElem_cons_succ, List.setIfInBounds_toArray, List.set_cons_zero, List.set_cons_succ]
    refine wpAnyH_take (i := 2) (v := .bool false) rfl (by kernel_rfl) (by kernel_rfl) (by kernel_rfl) (fun _ _ _ h => h) (Or.inl ⟨by first | kernel_rfl | rfl, fun _ hS => by go_simp⟩) s0 ?_
    try simp only [Act.put, List.getElem_toArray, List.getElem_cons_zero, List.getElem_cons_succ, List.setIfInBounds_toArray, List.set_cons_zero, List.set_cons_succ]
    refine wpAnyH_take (i := 3) (v := undef) rfl (by kernel_rfl) (by kernel_rfl) (by kernel_rfl) (fun _ _ _ h => h) (Or.inr ⟨by first | kernel_rfl | rfl, rfl⟩) s0 ?_
    try simp only [Act.put, List.getElem_toArray, List.getElem_cons_zero, List.getElem_cons_succ, List.setIfInBounds_toArray, List.set_cons_zero, List.set_cons_succ]
    refine wpAnyH_take (i := 4) (v := undef) rfl (by kernel_rfl) (by kernel_rfl) (by kernel_rfl) (fun _ _ _ h => h) (Or.inr ⟨by first | kernel_rfl | rfl, rfl⟩) s0 ?_
    try simp only [Act.put, List.getElem_toArray, List.getElem_cons_zero, List.getElem_cons_succ, List.setIfInBounds_toArray, List.set_cons_zero, List.set_cons_succ]
    refine wpAnyH_take (i := 5) (v := undef) rfl (by kernel_rfl) (by kernel_rfl) (by kernel_rfl) (fun _ _ _ h => h) (Or.inr ⟨by first | kernel_rfl | rfl, rfl⟩) s0 ?_
    try simp only [Act.put, List.getElem_toArray, List.getElem_cons_zero, List.getElem_cons_succ, List.setIfInBounds_toArray, List.set_cons_zero, List.set_cons_succ]
    refine wpAnyH_take (i := 6) (v := undef) rfl (by kernel_rfl) (by kernel_rfl) (by kernel_rfl) (fun _ _ _ h => h) (Or.inr ⟨by first | kernel_rfl | rfl, rfl⟩) s0 ?_
    try simp only [Act.put, List.getElem_toArray, List.getElem_cons_zero, List.getElem_cons_succ, List.setIfInBounds_toArray, List.set_cons_zero, List.set_cons_succ]
    refine wpAnyH_take (i := 7) (v := undef) rfl (by kernel_rfl) (by kernel_rfl) (by kernel_rfl) (fun _ _ _ h => h) (Or.inr ⟨by first | kernel_rfl | rfl, rfl⟩) s0 ?_
    try simp only [Act.put, List.getElem_toArray, List.getElem_cons_zero, List.getElem_cons_succ, List.setIfInBounds_toArray, List.set_cons_zero, List.set_cons_succ]
    refine wpAnyH_take (i := 8) (v := undef) rfl (by kernel_rfl) (by kernel_rfl) (by kernel_rfl) (fun _ _ _ h => h) (Or.inr ⟨by first | kernel_rfl | rfl, rfl⟩) s0 ?_
    try simp only [Act.put, List.getElem_toArray, List.getElem_cons_zero, List.getElem_cons_succ, List.setIfInBounds_toArray, List.set_cons_zero, List.set_cons_succ]
    refine wpAnyH_take (i := 9) (v := undef) rfl (by kernel_rfl) (by kernel_rfl) (by kernel_rfl) (fun _ _ _ h => h) (Or.inr ⟨by first | kernel_rfl | rfl, rfl⟩) s0 ?_
    try simp only [Act.put, List.getElem_toArray, List.getElem_cons_zero, List.getElem_cons_succ, List.setIfInBounds_toArray, List.set_cons_zero, List.set_cons_succ]
    refine wpAnyH_take (i := 10) (v := undef) rfl (by kernel_rfl) (by kernel_rfl) (by kernel_rfl) (fun _ _ _ h => h) (Or.inr ⟨by first | kernel_rfl | rfl, rfl⟩) s0 ?_
    try simp only [Act.put, List.getElem_toArray, List.getElem_cons_zero, List.getElem_cons_succ, List.setIfInBounds_toArray, List.set_cons_zero, List.set_cons_succ]
    refine wpAnyH_take (i := 11) (v := undef) rfl (by kernel_rfl) (by kernel_rfl) (by kernel_rfl) (fun _ _ _ h => h) (Or.inr ⟨by first | kernel_rfl | rfl, rfl⟩) s0 ?_
    try simp only [Act.put, List.getElem_toArray, List.getElem_cons_zero, List.getElem_cons_succ, List.setIfInBounds_toArray, List.set_cons_zero, List.set_cons_succ]
    refine wpAnyH_take (i := 12) (v := undef) rfl (by kernel_rfl) (by kernel_rfl) (by kernel_rfl) (fun _ _ _ h => h) (Or.inr ⟨by first | kernel_rfl | rfl, rfl⟩) s0 ?_
    try simp only [Act.put, List.getElem_toArray, List.getElem_cons_zero, List.getElem_cons_succ, List.setIfInBounds_toArray, List.set_cons_zero, List.set_cons_succ]
    refine wpAnyH_take (i := 13) (v := undef) rfl (by kernel_rfl) (by kernel_rfl) (by kernel_rfl) (fun _ _ _ h => h) (Or.inr ⟨by first | kernel_rfl | rfl, rfl⟩) s0 ?_
    try simp only [Act.put, List.getElem_toArray, List.getElem_cons_zero, List.getElem_cons_succ, List.setIfInBounds_toArray, List.set_cons_zero, List.set_cons_succ]
    refine wpAnyH_take (i := 14) (v := .bool false) rfl (by kernel_rfl) (by kernel_rfl) (by kernel_rfl) (fun _ _ _ h => h) (Or.inl ⟨by first | kernel_rfl | rfl, fun _ hS => by go_simp⟩) s0 ?_
    try simp only [Act.put, List.getElem_toArray, List.getElem_cons_zero, List.getElem_cons_succ, List.setIfInBounds_toArray, List.set_cons_zero, List.set_cons_succ]
    refine wpAnyH_take (i := 15) (v := .bool false) rfl (by kernel_rfl) (by kernel_rfl) (by kernel_rfl) (fun _ _ _ h => h) (Or.inl ⟨by first | kernel_rfl | rfl, fun _ hS => by go_simp⟩) s0 ?_
    try simp only [Act.put, List.getElem_toArray, List.getElem_cons_zero, List.getElem_cons_succ, List.setIfInBounds_toArray, List.set_cons_zero, List.set_cons_succ]
    refine wpAnyH_done (by kernel_rfl) ?_ _
    try simp only [Act.put, List.getElem_toArray, List.getElem_cons_zero, List.getElem_cons_succ, List.setIfInBounds_toArray, List.set_cons_zero, List.set_cons_succ]
    all_goals
      go_wp2_with fail
      go_ret
      exact ⟨by rw [HF.out]; try rfl, by first | exact BB.out | exact BB.out.drew⟩
  · obtain ⟨ad, q, hA, hq, -, hE, -⟩ := h.node hi
    have HTB := Lib.hid h
    have HQ := Lib.hid hq
    obtain ⟨qn, hqn⟩ : ∃ m, q.e.k.l.length = m := ⟨_, rfl⟩
    obtain ⟨qv, hqv⟩ : ∃ m, q.e.v.l.length = m := ⟨_, rfl⟩
    obtain ⟨o, ho⟩ : ∃ o, ordE (eo t.ns i) x.rd = o := ⟨_, rfl⟩
    obtain ⟨n, hn⟩ : ∃ n, t.ns.length = n := ⟨_, rfl⟩
    have HOR : Hid (∀ W, Below w.heap.size w W → Calls Try.prog 53 #[.agg #[.slice q.e.k.a qn q.e.k.c, .int .i64 q.e.s, .bool q.e.d, .slice q.e.v.a qv q.e.v.c], .agg #[.slice x.k.a xn x.k.c, .int .i64 x.s, .bool x.d, .slice x.v.a xv x.v.c]] W fun e w' => e = .returned (.int .i64 o) ∧ Below W.heap.size W w') := Lib.hid (fun W hW => by
      have := order_any q.e x W (hE.kept hW) (hx.kept hW)
      rwa [En.val_eq, En.val_eq, hqn, hqv, hxn, hxv, ← eo_of hq, ho] at this)
    have HSC : Hid (∀ W, Below w1.heap.size w1 W → W.cell? ⟨t.b, 1, none⟩ = some (.slice (some ad) n t.nc) ∧ (W.cell? (ad.add (i * 16)) = some (.slice q.e.k.a qn q.e.k.c) ∧ W.cell? ⟨(ad.add (i * 16)).block, (ad.add (i * 16)).off + 1, none⟩ = some (.int .i64 q.e.s) ∧ W.cell? ⟨(ad.add (i * 16)).block, (ad.add (i * 16)).off + 2, none⟩ = some (.bool q.e.d) ∧ W.cell? ⟨(ad.add (i * 16)).block, (ad.add (i * 16)).off + 3, none⟩ = some (.slice q.e.v.a qv q.e.v.c)) ∧ W.cell? ⟨w.heap.size, 0, none⟩ = some (.slice x.k.a xn x.k.c) ∧ W.cell? ⟨w.heap.size, 1, none⟩ = some (.int .i64 x.s) ∧ W.cell? ⟨w.heap.size, 2, none⟩ = some (.bool x.d) ∧ W.cell? ⟨w.heap.size, 3, none⟩ = some (.slice x.v.a xv x.v.c)) := Lib.hid (fun W hW => by
      have hT := HTB.out.kept (HBEL.out.trans (hW.mono HBEL.out.size))
      have h1 := (hT.cells).2
      rw [hA, hn] at h1
      have h2 := lies_node_at (hA ▸ hT.nrow.lies) HQ.out
      have h3 := h2.1
      unfold AtE at h3
      rw [hqn, hqv] at h3
      exact ⟨h1, h3, HBX.out W hW⟩)
    have HBV : Hid (decide (o < 0) = B) := Lib.hid (by rw [← hB]; unfold aheadB; rw [ho]; simp [h0])
    have i0 : (i : Int) < n := by omega
    have z0 : ((i : Int) != 0) = true := by simp; omega
    rw [hxn, hxv]
    clear h hx hB C1 HB1 hxn hxv hqn hqv hq hE ho HTB HQ h0 hi hn hA HB
    obtain ⟨b2, hb2⟩ : ∃ b, decide (o < 0) = b := ⟨_, rfl⟩
    have HB2 := Lib.hid hb2
    go_enter Try.func73, Try.ntmps73
    go_upto_region 1 with fail
    try rw [hw1]
    clear hw1
    have BB : Hid (Below w1.heap.size w1 w1) := Lib.hid (Below.refl _ _)
    go_region_held3 (fun W => W.cell? ⟨t.b, 1, none⟩ = some (.slice (some ad) n t.nc) ∧ (W.cell? (ad.add (i * 16)) = some (.slice q.e.k.a qn q.e.k.c) ∧ W.cell? ⟨(ad.add (i * 16)).block, (ad.add (i * 16)).off + 1, none⟩ = some (.int .i64 q.e.s) ∧ W.cell? ⟨(ad.add (i * 16)).block, (ad.add (i * 16)).off + 2, none⟩ = some (.bool q.e.d) ∧ W.cell? ⟨(ad.add (i * 16)).block, (ad.add (i * 16)).off + 3, none⟩ = some (.slice q.e.v.a qv q.e.v.c)) ∧ W.cell? ⟨w.heap.size, 0, none⟩ = some (.slice x.k.a xn x.k.c) ∧ W.cell? ⟨w.heap.size, 1, none⟩ = some (.int .i64 x.s) ∧ W.cell? ⟨w.heap.size, 2, none⟩ = some (.bool x.d) ∧ W.cell? ⟨w.heap.size, 3, none⟩ = some (.slice x.v.a xv x.v.c)) (first | exact HSC.out _ BB.out | exact HSC.out _ BB.out.drew | go_keep) (first
      | (go_at_call 53; refine (HOR.out _ (HBEL.out.trans ((by first | exact BB.out | exact BB.out.drew : Below w1.heap.size w1 _).mono HBEL.out.size))).mono ?_; rintro e w2 ⟨rfl, b2⟩; have BB : Hid (Below w1.heap.size w1 w2) := Lib.hid (below_then (by first | exact BB.out | exact BB.out.drew) b2); clear b2))
    all_goals
      go_wp2_with fail
      go_ret
      exact ⟨by rw [← HBV.out, HB2.out]; try rfl, HBEL.out.trans (BB.out.mono HBEL.out.size)⟩
set_option maxRecDepth 100000 in
theorem mlen_any {w : World} {t : MT} (h : MTab w t) (hf : t.ns.length ≤ 140737488355328) : Calls Try.prog 20 #[.pointer (some ⟨t.b, 0, none⟩)] w fun e w' => e = .returned (.int .i64 ((t.ns.length - 1 : Nat) : Int)) ∧ w' = w := by
  obtain ⟨-, c1⟩ := h.cells
  have hp := h.skip.pos
  obtain ⟨n, hn⟩ : ∃ n, t.ns.length = n := ⟨_, rfl⟩
  obtain ⟨m, hm⟩ : ∃ m, n - 1 = m := ⟨_, rfl⟩
  rw [hn] at c1 hp hf ⊢
  have w1 : (n : Int) - 1 = (m : Int) := by omega
  have HW := Lib.hid w1
  rw [hm]
  clear h hn w1
  go_enter Try.func20, Try.ntmps20
  go_wp2_with fail
  go_ret
  exact ⟨by rw [← HW.out]; first | rfl | simp, rfl⟩
end Go.Proofs.Ytcffpkflijpdjaa
namespace Go.Proofs.Ytcffpkflijpdjaa
open Go.RowKit
def zeros12 : Array Value := #[.int .i64 0, .int .i64 0, .int .i64 0, .int .i64 0, .int .i64 0, .int .i64 0, .int .i64 0, .int .i64 0, .int .i64 0, .int .i64 0, .int .i64 0, .int .i64 0]
/-- While the ways are gone: the entry's box, the answer's, and what has been found. -/
structure AhS (w W : World) (z : Nat) (cs : Array Value) (la : List Nat) : Prop where
  bel : Below w.heap.size w W
  box : W.heap[z]? = some (.cells cs 26 (0, 0))
  res : W.heap[z + 1]? = some (.cells zeros12 91 (0, 0))
  last : W.heap[z + 1 + 1]? = some (.cells (tvals la).toArray 91 (0, 0))
theorem AhS.kept {w W W' : World} {z : Nat} {cs : Array Value} {la : List Nat} (h : AhS w W z cs la) (hb : Below W.heap.size W W') : AhS w W' z cs la :=
  ⟨h.bel.trans (hb.mono h.bel.size), obj_kept h.box hb (Nat.le_refl _), obj_kept h.res hb (Nat.le_refl _), obj_kept h.last hb (Nat.le_refl _)⟩
theorem AhS.store {w W : World} {z : Nat} {cs : Array Value} {la : List Nat} (h : AhS w W z cs la) (hz : w.heap.size = z) (hl : la.length = 12) {q : Nat} (hq : q < 12) : (∃ u, W.cell? ⟨z + 1 + 1, q, none⟩ = some u) ∧ W.frozen? ⟨z + 1 + 1, q, none⟩ = false ∧ ∀ v : Nat, AhS w (W.setCell ⟨z + 1 + 1, q, none⟩ (.int .i64 (v : Int))) z cs (la.set q v) := by
  refine ⟨⟨.int .i64 ((la.getD q 0 : Nat) : Int), ?_⟩, by simp [World.frozen?, h.last], fun v => ⟨?_, ?_, ?_, ?_⟩⟩
  · unfold World.cell?
    simp only
    rw [h.last]
    simp only [List.getElem?_toArray]
    exact tvals_get la hq
  · exact ⟨h.bel.os, h.bel.tape, h.bel.output, by simpa using h.bel.size, fun k hk => (Below.heap_setCell W ⟨z + 1 + 1, q, none⟩ _ k (by simp only; omega)).trans (h.bel.block k hk)⟩
  · rw [Below.heap_setCell W ⟨z + 1 + 1, q, none⟩ _ z (by simp only; omega), h.box]
  · rw [Below.heap_setCell W ⟨z + 1 + 1, q, none⟩ _ (z + 1) (by simp only; omega), h.res]
  · simp only [World.setCell, Array.getElem?_modify, if_true, h.last, Option.map_some]
    rw [List.setIfInBounds_toArray, tvals_set hl hq]
    simp
theorem set_twelve {W : World} {z : Nat} {a0 a1 a2 a3 a4 a5 a6 a7 a8 a9 a10 a11 : Value} {t : TypeId} (h : W.heap[z]? = some (.cells zeros12 t (0, 0))) : ((((((((((((W.setCell ⟨z, 0, none⟩ a0).setCell ⟨z, 1, none⟩ a1).setCell ⟨z, 2, none⟩ a2).setCell ⟨z, 3, none⟩ a3).setCell ⟨z, 4, none⟩ a4).setCell ⟨z, 5, none⟩ a5).setCell ⟨z, 6, none⟩ a6).setCell ⟨z, 7, none⟩ a7).setCell ⟨z, 8, none⟩ a8).setCell ⟨z, 9, none⟩ a9).setCell ⟨z, 10, none⟩ a10).setCell ⟨z, 11, none⟩ a11).heap[z]? = some (.cells #[a0, a1, a2, a3, a4, a5, a6, a7, a8, a9, a10, a11] t (0, 0)) := by
  unfold zeros12 at h
  simp [World.setCell, Array.getElem?_modify, h]
theorem set_twelve_below {w W : World} {B z : Nat} {a0 a1 a2 a3 a4 a5 a6 a7 a8 a9 a10 a11 : Value} (h : Below B w W) (hz : B ≤ z) : Below B w ((((((((((((W.setCell ⟨z, 0, none⟩ a0).setCell ⟨z, 1, none⟩ a1).setCell ⟨z, 2, none⟩ a2).setCell ⟨z, 3, none⟩ a3).setCell ⟨z, 4, none⟩ a4).setCell ⟨z, 5, none⟩ a5).setCell ⟨z, 6, none⟩ a6).setCell ⟨z, 7, none⟩ a7).setCell ⟨z, 8, none⟩ a8).setCell ⟨z, 9, none⟩ a9).setCell ⟨z, 10, none⟩ a10).setCell ⟨z, 11, none⟩ a11) := by
  have k : ∀ {V : World} (i : Nat) (v : Value), Below B w V → Below B w (V.setCell ⟨z, i, none⟩ v) := fun {V} i v hV => ⟨hV.os, hV.tape, hV.output, by simpa using hV.size, fun k hk => (Below.heap_setCell V ⟨z, i, none⟩ v k (by simp only; omega)).trans (hV.block k hk)⟩
  exact k _ _ (k _ _ (k _ _ (k _ _ (k _ _ (k _ _ (k _ _ (k _ _ (k _ _ (k _ _ (k _ _ (k _ _ h)))))))))))
theorem twelve {la : List Nat} (h : la.length = 12) : ∃ l0 l1 l2 l3 l4 l5 l6 l7 l8 l9 l10 l11, la = [l0, l1, l2, l3, l4, l5, l6, l7, l8, l9, l10, l11] := by
  match la, h with
  | [l0, l1, l2, l3, l4, l5, l6, l7, l8, l9, l10, l11], _ => exact ⟨l0, l1, l2, l3, l4, l5, l6, l7, l8, l9, l10, l11, rfl⟩
theorem cells_twelve {W : World} {z : Nat} {a0 a1 a2 a3 a4 a5 a6 a7 a8 a9 a10 a11 : Value} {t : TypeId} (h : W.heap[z]? = some (.cells #[a0, a1, a2, a3, a4, a5, a6, a7, a8, a9, a10, a11] t (0, 0))) : (W.cell? ⟨z, 0, none⟩ = some a0 ∧ W.cell? ⟨z, 1, none⟩ = some a1 ∧ W.cell? ⟨z, 2, none⟩ = some a2 ∧ W.cell? ⟨z, 3, none⟩ = some a3 ∧ W.cell? ⟨z, 4, none⟩ = some a4 ∧ W.cell? ⟨z, 5, none⟩ = some a5 ∧ W.cell? ⟨z, 6, none⟩ = some a6 ∧ W.cell? ⟨z, 7, none⟩ = some a7 ∧ W.cell? ⟨z, 8, none⟩ = some a8 ∧ W.cell? ⟨z, 9, none⟩ = some a9 ∧ W.cell? ⟨z, 10, none⟩ = some a10 ∧ W.cell? ⟨z, 11, none⟩ = some a11) ∧ ∀ j, W.frozen? ⟨z, j, none⟩ = false := by
  refine ⟨⟨?_, ?_, ?_, ?_, ?_, ?_, ?_, ?_, ?_, ?_, ?_, ?_⟩, fun j => by simp [World.frozen?, h]⟩ <;> simp [World.cell?, h]
/-- What is known of them from a height on. -/
def LastFrom (N : List Nd) (x : Er) (la : List Nat) (k : Nat) : Prop := ∀ h, k ≤ h → h < 12 → la.getD h 0 < N.length ∧ (la.getD h 0 = 0 ∨ ordE (eo N (la.getD h 0)) x < 0) ∧ (nx N h (la.getD h 0) = 0 ∨ ¬ ordE (eo N (nx N h (la.getD h 0))) x < 0)
theorem LastFrom.step {N : List Nd} {x : Er} {la : List Nat} {k a : Nat} (h : LastFrom N x la (k + 1)) (hl : la.length = 12) (hk : k < 12) (h1 : a < N.length) (h2 : a = 0 ∨ ordE (eo N a) x < 0) (h3 : nx N k a = 0 ∨ ¬ ordE (eo N (nx N k a)) x < 0) : LastFrom N x (la.set k a) k := fun g hg hg12 => by
  by_cases e : k = g
  · subst e
    have : (la.set k a).getD k 0 = a := by rw [List.getD_eq_getElem?_getD, List.getElem?_set_self (by omega)]; rfl
    rw [this]
    exact ⟨h1, h2, h3⟩
  · have : (la.set k a).getD g 0 = la.getD g 0 := by rw [List.getD_eq_getElem?_getD, List.getElem?_set_ne e, ← List.getD_eq_getElem?_getD]
    rw [this]
    exact h g (by omega) hg12
set_option maxRecDepth 100000 in
set_option maxHeartbeats 16000000 in
theorem mahead_any {w : World} {t : MT} (h : MTab w t) (x : En) (hx : EIn w x) : Calls Try.prog 51 #[.pointer (some ⟨t.b, 0, none⟩), x.val] w fun e w' => ∃ la : List Nat, la.length = 12 ∧ e = .returned (.agg (tvals la).toArray) ∧ LastOk t.ns x.rd la ∧ Below w.heap.size w w' := by
  have HT := Lib.hid h
  have HX := Lib.hid hx
  rw [En.val_eq]
  obtain ⟨xn, hxn⟩ : ∃ m, x.k.l.length = m := ⟨_, rfl⟩
  obtain ⟨xv, hxv⟩ : ∃ m, x.v.l.length = m := ⟨_, rfl⟩
  have HXN := Lib.hid (And.intro hxn hxv)
  rw [hxn, hxv]
  obtain ⟨w1, hw1⟩ : ∃ w1, ((w.alloc (.cells #[.slice x.k.a xn x.k.c, .int .i64 x.s, .bool x.d, .slice x.v.a xv x.v.c] 26)).alloc (.cells #[.int .i64 0, .int .i64 0, .int .i64 0, .int .i64 0, .int .i64 0, .int .i64 0, .int .i64 0, .int .i64 0, .int .i64 0, .int .i64 0, .int .i64 0, .int .i64 0] 91)).alloc (.cells #[.int .i64 0, .int .i64 0, .int .i64 0, .int .i64 0, .int .i64 0, .int .i64 0, .int .i64 0, .int .i64 0, .int .i64 0, .int .i64 0, .int .i64 0, .int .i64 0] 91) = w1 := ⟨_, rfl⟩
  obtain ⟨hq, hs, hb⟩ := allocs_get [.cells #[.slice x.k.a xn x.k.c, .int .i64 x.s, .bool x.d, .slice x.v.a xv x.v.c] 26, .cells zeros12 91, .cells zeros12 91] w
  have q0 := hq 0 _ rfl
  have q1 := hq 1 _ rfl
  have q2 := hq 2 _ rfl
  simp only [List.foldl_cons, List.foldl_nil, zeros12, hw1, Nat.add_zero] at hb q0 q1 q2
  have HS : Hid (AhS w w1 w.heap.size #[.slice x.k.a xn x.k.c, .int .i64 x.s, .bool x.d, .slice x.v.a xv x.v.c] (List.replicate 12 0)) := Lib.hid ⟨hb, q0, q1, q2⟩
  obtain ⟨n, hn⟩ : ∃ n, t.ns.length = n := ⟨_, rfl⟩
  have HN := Lib.hid hn
  clear h hx hxn hxv hq hs hb q0 q1 q2 hn
  go_enter Try.func51, Try.ntmps51
  go_upto_region 4 with fail
  try rw [hw1]
  clear hw1
  go_loopw [6, 7] (fun t6 t7 wr => ∃ (a k : Nat) (v : Int) (la : List Nat), t6 = .int .i64 a ∧ t7 = .int .i64 v ∧ k ≤ 12 ∧ a < n ∧ Hid (v = (k : Int) - 1 ∧ la.length = 12 ∧ (a = 0 ∨ ordE (eo t.ns a) x.rd < 0) ∧ LastFrom t.ns x.rd la k ∧ AhS w wr w.heap.size #[.slice x.k.a xn x.k.c, .int .i64 x.s, .bool x.d, .slice x.v.a xv x.v.c] la)) (fun _ t7 _ => (intOf t7 + 1).toNat)
  case atStart => exact ⟨0, 12, 11, List.replicate 12 0, rfl, rfl, by omega, by have := HT.out.skip.pos; have := HN.out; omega, Lib.hid ⟨rfl, rfl, .inl rfl, fun h h1 h2 => by omega, HS.out⟩⟩
  case round =>
    clear HS w1
    obtain ⟨a, k, v, la, rfl, rfl, hk, han, hr⟩ := hrel
    obtain h0 | ⟨q, hq0⟩ : k = 0 ∨ ∃ q, k = q + 1 := by
      cases k with
      | zero => exact .inl rfl
      | succ q => exact .inr ⟨q, rfl⟩
    · obtain rfl : v = -1 := by have := hr.out.1; omega
      obtain ⟨l0, l1, l2, l3, l4, l5, l6, l7, l8, l9, l10, l11, hla⟩ := twelve hr.out.2.1
      have HLA := Lib.hid hla
      have HLAST : Hid (LastOk t.ns x.rd la) := Lib.hid (fun g hg => hr.out.2.2.2.1 g (by omega) hg)
      have HRS := Lib.hid hr.out.2.2.2.2.res
      have HBL := Lib.hid hr.out.2.2.2.2.bel
      have hlst := hr.out.2.2.2.2.last
      rw [hla] at hlst
      obtain ⟨⟨y0, y1, y2, y3, y4, y5, y6, y7, y8, y9, y10, y11⟩, -⟩ := cells_twelve (show wr.heap[w.heap.size + 1 + 1]? = some (.cells #[.int .i64 l0, .int .i64 l1, .int .i64 l2, .int .i64 l3, .int .i64 l4, .int .i64 l5, .int .i64 l6, .int .i64 l7, .int .i64 l8, .int .i64 l9, .int .i64 l10, .int .i64 l11] 91 (0, 0)) from hlst)
      obtain ⟨⟨z0, z1, z2, z3, z4, z5, z6, z7, z8, z9, z10, z11⟩, hfz⟩ := cells_twelve HRS.out
      have f0 := hfz 0
      have f1 := hfz 1
      have f2 := hfz 2
      have f3 := hfz 3
      have f4 := hfz 4
      have f5 := hfz 5
      have f6 := hfz 6
      have f7 := hfz 7
      have f8 := hfz 8
      have f9 := hfz 9
      have f10 := hfz 10
      have f11 := hfz 11
      clear hr hlst hfz hla h0 hk
      have H12 := Lib.hid (set_twelve (a0 := .int .i64 l0) (a1 := .int .i64 l1) (a2 := .int .i64 l2) (a3 := .int .i64 l3) (a4 := .int .i64 l4) (a5 := .int .i64 l5) (a6 := .int .i64 l6) (a7 := .int .i64 l7) (a8 := .int .i64 l8) (a9 := .int .i64 l9) (a10 := .int .i64 l10) (a11 := .int .i64 l11) HRS.out)
      have HB12 := Lib.hid (set_twelve_below (z := w.heap.size + 1) (a0 := .int .i64 l0) (a1 := .int .i64 l1) (a2 := .int .i64 l2) (a3 := .int .i64 l3) (a4 := .int .i64 l4) (a5 := .int .i64 l5) (a6 := .int .i64 l6) (a7 := .int .i64 l7) (a8 := .int .i64 l8) (a9 := .int .i64 l9) (a10 := .int .i64 l10) (a11 := .int .i64 l11) HBL.out (by omega))
      clear HBL HRS
      go_wp2_with fail
      clear y0 y1 y2 y3 y4 y5 y6 y7 y8 y9 y10 y11 z0 z1 z2 z3 z4 z5 z6 z7 z8 z9 z10 z11 f0 f1 f2 f3 f4 f5 f6 f7 f8 f9 f10 f11
      try simp only [Exit.inBlock, Exit.then]
      generalize ((((((((((((wr.setCell ⟨w.heap.size + 1, 0, none⟩ (.int .i64 l0)).setCell ⟨w.heap.size + 1, 1, none⟩ (.int .i64 l1)).setCell ⟨w.heap.size + 1, 2, none⟩ (.int .i64 l2)).setCell ⟨w.heap.size + 1, 3, none⟩ (.int .i64 l3)).setCell ⟨w.heap.size + 1, 4, none⟩ (.int .i64 l4)).setCell ⟨w.heap.size + 1, 5, none⟩ (.int .i64 l5)).setCell ⟨w.heap.size + 1, 6, none⟩ (.int .i64 l6)).setCell ⟨w.heap.size + 1, 7, none⟩ (.int .i64 l7)).setCell ⟨w.heap.size + 1, 8, none⟩ (.int .i64 l8)).setCell ⟨w.heap.size + 1, 9, none⟩ (.int .i64 l9)).setCell ⟨w.heap.size + 1, 10, none⟩ (.int .i64 l10)).setCell ⟨w.heap.size + 1, 11, none⟩ (.int .i64 l11)) = w5 at H12 HB12 ⊢
      refine bodyPost_ret (results_cell_row rfl _ _ (w.heap.size + 1) 91 #[.int .i64 l0, .int .i64 l1, .int .i64 l2, .int .i64 l3, .int .i64 l4, .int .i64 l5, .int .i64 l6, .int .i64 l7, .int .i64 l8, .int .i64 l9, .int .i64 l10, .int .i64 l11] (0, 0) _ rfl H12.out Try.underlying91 rfl (by kernel_rfl)) rfl ?_
      exact ⟨la, by rw [HLA.out]; rfl, by rw [HLA.out]; rfl, HLAST.out, HB12.out⟩
    · subst hq0
      obtain rfl : v = (q : Int) := by have := hr.out.1; omega
      have q0 : (0 : Int) ≤ q := by omega
      have q1 : (q : Int) < 12 := by omega
      have q2 : q < 12 := by omega
      have HA : Hid (a < n) := Lib.hid han
      have a0 : (a : Int) < n := by omega
      obtain ⟨ad, nd, hA, hnd, hat, -, hnx⟩ := (HT.out.kept hr.out.2.2.2.2.bel).node (i := a) (by have := HN.out; omega)
      have c1 := (HT.out.kept hr.out.2.2.2.2.bel).cells.2
      have c2 := hat.2 q q2
      rw [← hnx q] at c2
      rw [hA, HN.out] at c1
      clear hA hnd hat hnx
      go_upto_region 7 with fail
      clear c1 c2
      obtain ⟨wo, hwo⟩ : ∃ wo, wo = wr := ⟨_, rfl⟩
      subst hwo
      go_loopw [6, 8] (fun t6 t8 wv => ∃ a b : Nat, t6 = .int .i64 a ∧ t8 = .int .i64 b ∧ Hid (a < n ∧ b = nx t.ns q a ∧ (a = 0 ∨ ordE (eo t.ns a) x.rd < 0) ∧ AhS w wv w.heap.size #[.slice x.k.a xn x.k.c, .int .i64 x.s, .bool x.d, .slice x.v.a xv x.v.c] la)) (fun t6 _ _ => behindC t.ns t.cs (intOf t6).toNat)
      case atStart => exact ⟨a, _, rfl, rfl, Lib.hid ⟨HA.out, rfl, hr.out.2.2.1, hr.out.2.2.2.2⟩⟩
      case round =>
        obtain ⟨a', b, rfl, rfl, hv⟩ := hrel
        have hbn : b < n := by
          rcases HT.out.skip.asc q a' q2 (by have := HN.out; have := hv.out.1; omega) with e | ⟨e, -⟩
          · have := hv.out.2.1; have := hv.out.1; omega
          · have := hv.out.2.1; have := HN.out; omega
        have HBN := Lib.hid hbn
        obtain ⟨x0, x1, x2, x3⟩ := box_four hv.out.2.2.2.box
        obtain ⟨B, hB⟩ : ∃ B, aheadB t.ns b x.rd = B := ⟨_, rfl⟩
        have HAB := Lib.hid hB
        have HIA : Hid (Calls Try.prog 73 #[.pointer (some ⟨t.b, 0, none⟩), .int .i64 b, .agg #[.slice x.k.a xn x.k.c, .int .i64 x.s, .bool x.d, .slice x.v.a xv x.v.c]] wr fun e w' => e = .returned (.bool B) ∧ Below wr.heap.size wr w') := Lib.hid (by
          have := misAhead_any (HT.out.kept hv.out.2.2.2.bel) (i := b) (by have := HN.out; omega) x (HX.out.kept hv.out.2.2.2.bel)
          rwa [En.val_eq, HXN.out.1, HXN.out.2, hB] at this)
        have HCC : Hid (∀ W, AhS w W w.heap.size #[.slice x.k.a xn x.k.c, .int .i64 x.s, .bool x.d, .slice x.v.a xv x.v.c] la → ∃ ad : Addr, W.cell? ⟨t.b, 1, none⟩ = some (.slice (some ad) n t.nc) ∧ W.cell? ⟨(ad.add (b * 16)).block, (ad.add (b * 16)).off + 4 + q, none⟩ = some (.int .i64 (nx t.ns q b : Nat))) := Lib.hid (fun W hW => by
          obtain ⟨ad, nd, hA, hnd, hat, -, hnx⟩ := (HT.out.kept hW.bel).node (i := b) (by have := HN.out; omega)
          have c1 := (HT.out.kept hW.bel).cells.2
          have c2 := hat.2 q q2
          rw [← hnx q] at c2
          rw [hA, HN.out] at c1
          exact ⟨ad, c1, c2⟩)
        have b0 : (b : Int) < n := by omega
        have HHN := Lib.hid (And.intro hr.out.2.1 hr.out.2.2.2.1)
        clear hB hbn
        cases B
        · go_wp2_with (go_at_call 73; refine HIA.out.mono ?_; rintro e w2 ⟨rfl, b2⟩; have H2 : Hid (AhS w w2 w.heap.size #[.slice x.k.a xn x.k.c, .int .i64 x.s, .bool x.d, .slice x.v.a xv x.v.c] la) := Lib.hid (hv.out.2.2.2.kept b2); clear b2; obtain ⟨⟨u, y0⟩, f0, hst⟩ := H2.out.store rfl HHN.out.1 q2; have HST := Lib.hid hst; clear hst)
          go_roundw
          case rel => exact ⟨a', q, _, la.set q a', rfl, rfl, by omega, hv.out.1, Lib.hid ⟨rfl, by rw [List.length_set]; exact HHN.out.1, hv.out.2.2.1, HHN.out.2.step HHN.out.1 q2 (by have := HN.out; have := hv.out.1; omega) hv.out.2.2.1 (by
              have := HAB.out
              unfold aheadB at this
              rw [Bool.and_eq_false_iff, decide_eq_false_iff_not, decide_eq_false_iff_not] at this
              rw [← hv.out.2.1]
              exact this.imp (fun h => by omega) id), HST.out _⟩⟩
          case measure => simp [intOf]
        · go_wp2_with (go_at_call 73; refine HIA.out.mono ?_; rintro e w2 ⟨rfl, b2⟩; have H2 : Hid (AhS w w2 w.heap.size #[.slice x.k.a xn x.k.c, .int .i64 x.s, .bool x.d, .slice x.v.a xv x.v.c] la) := Lib.hid (hv.out.2.2.2.kept b2); clear b2; obtain ⟨ad, c1, c2⟩ := HCC.out _ H2.out)
          have HBT : Hid (b ≠ 0 ∧ ordE (eo t.ns b) x.rd < 0) := Lib.hid (by
            have := HAB.out
            unfold aheadB at this
            rw [Bool.and_eq_true, decide_eq_true_iff, decide_eq_true_iff] at this
            exact this)
          go_roundw
          case rel => exact ⟨b, _, rfl, rfl, Lib.hid ⟨HBN.out, rfl, .inr HBT.out.2, H2.out⟩⟩
          case measure =>
            have e := hv.out.2.1
            have h1 := behind_less HT.out.skip q2 (p := a') (by have := HN.out; have := hv.out.1; omega) (by rw [← e]; exact HBT.out.1)
            rw [← e] at h1
            simpa [intOf] using h1
      
end Go.Proofs.Ytcffpkflijpdjaa
namespace Go.Proofs.Ytcffpkflijpdjaa
open Go.RowKit
theorem first_of (l0 l1 l2 l3 l4 l5 l6 l7 l8 l9 l10 l11 : Int) (w : World) : (Instr.index 91 (.agg #[.int .i64 l0, .int .i64 l1, .int .i64 l2, .int .i64 l3, .int .i64 l4, .int .i64 l5, .int .i64 l6, .int .i64 l7, .int .i64 l8, .int .i64 l9, .int .i64 l10, .int .i64 l11]) (.int .i64 0)).run Try.prog w = .ok (.int .i64 l0) w := by
  show _ = _
  kernel_rfl
set_option maxRecDepth 100000 in
set_option maxHeartbeats 8000000 in
theorem mfrom_any {w : World} {t : MT} (h : MTab w t) (x : En) (hx : EIn w x) : Calls Try.prog 47 #[.pointer (some ⟨t.b, 0, none⟩), x.val] w fun e w' => ∃ a : Nat, a < t.ns.length ∧ e = .returned (.int .i64 (nx t.ns 0 a : Nat)) ∧ (a = 0 ∨ ordE (eo t.ns a) x.rd < 0) ∧ (nx t.ns 0 a = 0 ∨ ¬ ordE (eo t.ns (nx t.ns 0 a)) x.rd < 0) ∧ Below w.heap.size w w' := by
  have HT := Lib.hid h
  have HX := Lib.hid hx
  rw [En.val_eq]
  obtain ⟨xn, hxn⟩ : ∃ m, x.k.l.length = m := ⟨_, rfl⟩
  obtain ⟨xv, hxv⟩ : ∃ m, x.v.l.length = m := ⟨_, rfl⟩
  have HXN := Lib.hid (And.intro hxn hxv)
  rw [hxn, hxv]
  obtain ⟨HB1, C1⟩ := box_cells w (.slice x.k.a xn x.k.c) (.int .i64 x.s) (.bool x.d) (.slice x.v.a xv x.v.c)
  obtain ⟨w1, hw1⟩ : ∃ w1, w.alloc (.cells #[.slice x.k.a xn x.k.c, .int .i64 x.s, .bool x.d, .slice x.v.a xv x.v.c] 26) = w1 := ⟨_, rfl⟩
  rw [hw1] at C1 HB1
  obtain ⟨x0, x1, x2, x3⟩ := C1 w1 (Below.refl _ _)
  have HBEL := Lib.hid HB1
  have HAH : Hid (Calls Try.prog 51 #[.pointer (some ⟨t.b, 0, none⟩), .agg #[.slice x.k.a xn x.k.c, .int .i64 x.s, .bool x.d, .slice x.v.a xv x.v.c]] w1 fun e w' => ∃ la : List Nat, la.length = 12 ∧ e = .returned (.agg (tvals la).toArray) ∧ LastOk t.ns x.rd la ∧ Below w1.heap.size w1 w') := Lib.hid (by
    have := mahead_any (h.kept HB1) x (hx.kept HB1)
    rwa [En.val_eq, hxn, hxv] at this)
  clear h hx hxn hxv C1 HB1
  go_enter Try.func47, Try.ntmps47
  go_wp2_with (first
    | (go_at_call 51; refine HAH.out.mono ?_; rintro e w2 ⟨la, hl, rfl, hlast, b2⟩; obtain ⟨l0, l1, l2, l3, l4, l5, l6, l7, l8, l9, l10, l11, hla⟩ := twelve hl; have H2 : Hid (l0 < t.ns.length ∧ (l0 = 0 ∨ ordE (eo t.ns l0) x.rd < 0) ∧ (nx t.ns 0 l0 = 0 ∨ ¬ ordE (eo t.ns (nx t.ns 0 l0)) x.rd < 0) ∧ Below w.heap.size w w2) := Lib.hid (by have := hlast 0 (by omega); rw [hla] at this; exact ⟨this.1, this.2.1, this.2.2, HBEL.out.trans (b2.mono HBEL.out.size)⟩); rw [hla, show (tvals [l0, l1, l2, l3, l4, l5, l6, l7, l8, l9, l10, l11]).toArray = #[.int .i64 (l0 : Int), .int .i64 (l1 : Int), .int .i64 (l2 : Int), .int .i64 (l3 : Int), .int .i64 (l4 : Int), .int .i64 (l5 : Int), .int .i64 (l6 : Int), .int .i64 (l7 : Int), .int .i64 (l8 : Int), .int .i64 (l9 : Int), .int .i64 (l10 : Int), .int .i64 (l11 : Int)] from rfl]; have hfo := first_of l0 l1 l2 l3 l4 l5 l6 l7 l8 l9 l10 l11; clear hl hlast b2 hla la)
    | (go_at_call 52; refine (mnext_any (HT.out.kept H2.out.2.2.2) H2.out.1).mono ?_; rintro e w' ⟨rfl, rfl⟩))
  go_ret
  exact ⟨l0, H2.out.1, rfl, H2.out.2.1, H2.out.2.2.1, H2.out.2.2.2⟩
set_option maxRecDepth 100000 in
set_option maxHeartbeats 8000000 in
theorem mheight_any {w : World} {t : MT} (h : MTab w t) (hf : t.ns.length ≤ 140737488355328) : Calls Try.prog 77 #[.pointer (some ⟨t.b, 0, none⟩)] w fun e w' => ∃ j : Nat, 1 ≤ j ∧ j ≤ 12 ∧ e = .returned (.int .i64 (j : Int)) ∧ Below w.heap.size w w' := by
  have HT := Lib.hid h
  obtain ⟨c0, -⟩ := h.cells
  obtain ⟨hn, hhn⟩ : ∃ m, t.hs.length = m := ⟨_, rfl⟩
  rw [hhn] at c0
  by_cases h0 : hn = 0
  · subst h0
    clear h hhn
    go_enter Try.func77, Try.ntmps77
    go_wp2_with fail
    go_ret
    exact ⟨1, by omega, by omega, rfl, Below.refl _ _⟩
  · obtain ⟨k, hk⟩ : ∃ k, t.ns.length - 1 = k := ⟨_, rfl⟩
    obtain ⟨m, hm⟩ : ∃ m, k % hn = m := ⟨_, rfl⟩
    have hmn : m < hn := by rw [← hm]; exact Nat.mod_lt _ (by omega)
    have hq := List.getElem?_eq_getElem (l := t.hs) (i := m) (by omega)
    generalize t.hs[m]'(by omega) = y at hq
    obtain ⟨ad, hA, y0⟩ := lies_int h.hrow.lies hq
    rw [hA] at c0
    have hcap := own_cap h.hrow
    have HL : Hid (∀ W, Below w.heap.size w W → Calls Try.prog 20 #[.pointer (some ⟨t.b, 0, none⟩)] W fun e w' => e = .returned (.int .i64 (k : Int)) ∧ w' = W) := Lib.hid (fun W hW => by
      have := mlen_any (h.kept hW) hf
      rwa [hk] at this)
    have HSC : Hid (∀ W, Below w.heap.size w W → W.cell? ⟨t.b, 0, none⟩ = some (.slice (some ad) hn t.hc) ∧ W.cell? (ad.add m) = some (.int .i64 y)) := Lib.hid (fun W hW => by
      have c := (h.kept hW).cells.1
      rw [hA, hhn] at c
      obtain ⟨ad', e, h'⟩ := lies_int (h.kept hW).hrow.lies hq
      rw [hA] at e
      injection e with e
      subst e
      exact ⟨c, h'⟩)
    have r1 : ((k : Int)).tmod (hn : Int) = (m : Int) := by rw [Int.tmod_eq_emod_of_nonneg (by omega)]; omega
    have n1 : ((hn : Int) == 0) = false := by simp; omega
    have n2 : (hn : Int) ≠ 0 := by omega
    have n3 : hn ≠ 0 := h0
    have i1 : (m : Int) < hn := by omega
    have BB : Hid (Below w.heap.size w w) := Lib.hid (Below.refl _ _)
    clear h hq hA hm hmn hhn hk hcap y0
    have m12 : (m : Int).toNat = m := by omega
    by_cases hy1 : y < 1
    · have y1 : ¬ 1 ≤ y := by omega
      have y2 : y ≤ 1 := by omega
      go_enter Try.func77, Try.ntmps77
      go_upto_region 3 with fail
      go_region_held3 (fun W => W.cell? ⟨t.b, 0, none⟩ = some (.slice (some ad) hn t.hc) ∧ W.cell? (ad.add m) = some (.int .i64 y)) (first | exact HSC.out _ BB.out | exact HSC.out _ BB.out.drew | go_keep) (first
        | (go_at_call 20; refine (HL.out _ (by first | exact BB.out | exact BB.out.drew)).mono ?_; rintro e w' ⟨rfl, rfl⟩))
      all_goals
        go_wp2_with fail
        go_ret
        exact ⟨1, by omega, by omega, rfl, by first | exact BB.out | exact BB.out.drew⟩
    · by_cases hy2 : 12 < y
      · have y1 : 1 ≤ y := by omega
        have y2 : ¬ y ≤ 12 := by omega
        go_enter Try.func77, Try.ntmps77
        go_upto_region 3 with fail
        go_region_held3 (fun W => W.cell? ⟨t.b, 0, none⟩ = some (.slice (some ad) hn t.hc) ∧ W.cell? (ad.add m) = some (.int .i64 y)) (first | exact HSC.out _ BB.out | exact HSC.out _ BB.out.drew | go_keep) (first
          | (go_at_call 20; refine (HL.out _ (by first | exact BB.out | exact BB.out.drew)).mono ?_; rintro e w' ⟨rfl, rfl⟩))
        all_goals
          go_wp2_with fail
          go_ret
          exact ⟨12, by omega, by omega, rfl, by first | exact BB.out | exact BB.out.drew⟩
      · obtain ⟨j, rfl⟩ : ∃ j : Nat, y = (j : Int) := ⟨y.toNat, by omega⟩
        have y1 : (1 : Int) ≤ j := by omega
        have y2 : (j : Int) ≤ 12 := by omega
        go_enter Try.func77, Try.ntmps77
        go_upto_region 3 with fail
        go_region_held3 (fun W => W.cell? ⟨t.b, 0, none⟩ = some (.slice (some ad) hn t.hc) ∧ W.cell? (ad.add m) = some (.int .i64 (j : Int))) (first | exact HSC.out _ BB.out | exact HSC.out _ BB.out.drew | go_keep) (first
          | (go_at_call 20; refine (HL.out _ (by first | exact BB.out | exact BB.out.drew)).mono ?_; rintro e w' ⟨rfl, rfl⟩))
        all_goals
          go_wp2_with fail
          go_ret
          exact ⟨j, by omega, by omega, rfl, by first | exact BB.out | exact BB.out.drew⟩
end Go.Proofs.Ytcffpkflijpdjaa
namespace Go.Proofs.Ytcffpkflijpdjaa
open Go.RowKit
theorem own_typeN {w : World} {B : Nat} {e : TypeId} {size : Nat} {A : Option Addr} {n c m : Nat} {xs : List Value} (h : w.ownsRow B e size (.slice A n c) m xs) : ∀ ad, A = some ad → ∃ cs, w.heap[ad.block]? = some (.cells cs e (0, 0)) := fun ad ha => by
  rcases h.2 with ⟨hn, _⟩ | ⟨g, cap, cur, e', _, h2, _⟩
  · rw [ha] at hn; cases hn
  · rw [ha] at e'
    injection e' with e'
    injection e' with e'
    subst e'
    exact ⟨_, h2⟩
theorem towerOf_zero (N : List Nd) (la : List Nat) : towerOf N la 0 = List.replicate 12 0 := by
  unfold towerOf
  refine List.ext_getElem? (fun h => ?_)
  by_cases hh : h < 12
  · rw [List.getElem?_map, List.getElem?_range hh, List.getElem?_replicate_of_lt hh]; rfl
  · rw [List.getElem?_eq_none (by simp; omega), List.getElem?_eq_none (by simp; omega)]
theorem towerOf_step (N : List Nd) (la : List Nat) {j : Nat} (hj : j < 12) : towerOf N la (j + 1) = (towerOf N la j).set j (nx N j (la.getD j 0)) := by
  refine List.ext_getElem? (fun h => ?_)
  by_cases hh : h < 12
  · by_cases e : j = h
    · subst e
      rw [List.getElem?_set_self (by rw [towerOf_len]; exact hj)]
      unfold towerOf
      rw [List.getElem?_map, List.getElem?_range hh]
      simp
    · rw [List.getElem?_set_ne e]
      unfold towerOf
      rw [List.getElem?_map, List.getElem?_map, List.getElem?_range hh]
      simp only [Option.map_some]
      congr 1
      by_cases k : h < j
      · rw [if_pos (by omega), if_pos k]
      · rw [if_neg (by omega), if_neg k]
  · rw [List.getElem?_eq_none (by rw [towerOf_len]; omega), List.getElem?_eq_none (by rw [List.length_set, towerOf_len]; omega)]
theorem raise_mem {N : List Nd} {la : List Nat} {v : Nat} : ∀ {j : Nat} {q : Nd}, q ∈ raise N la v j → ∃ p ∈ N, p.e = q.e
  | 0, q, h => ⟨q, h, rfl⟩
  | j + 1, q, h => by
    rw [raise] at h
    unfold setT at h
    split at h
    · exact raise_mem h
    · next p hp =>
      rcases List.mem_or_eq_of_mem_set h with e | e
      · exact raise_mem e
      · obtain ⟨r, hr, e2⟩ := raise_mem (List.mem_of_getElem? hp)
        exact ⟨r, hr, by rw [e]; exact e2⟩
/-- While towers are turned. -/
structure InsS (w W : World) (t : MT) (z g6 : Nat) (x' : En) (la : List Nat) (h : Nat) : Prop where
  kp : Kp (fun g => g < w.heap.size ∧ ¬ SlB t.nA g) w W
  nrow : Nrow W 0 t.nA t.nc (raise t.ns la t.ns.length h)
  lab : W.heap[z]? = some (.cells (tvals la).toArray 91 (0, 0))
  nb : W.heap[g6]? = some (.cells (x'.cells ++ tvals (towerOf t.ns la h)).toArray 93 (0, 0))
  xs : Row W w.heap.size x'.k.a x'.k.c x'.k.l ∧ Row W w.heap.size x'.v.a x'.v.c x'.v.l
theorem InsS.kept {w W W' : World} {t : MT} {z g6 h : Nat} {x' : En} {la : List Nat} (s : InsS w W t z g6 x' la h) (hb : Below W.heap.size W W') : InsS w W' t z g6 x' la h :=
  ⟨⟨hb.os.trans s.kp.os, hb.tape.trans s.kp.tape, hb.output.trans s.kp.output, Nat.le_trans s.kp.size hb.size, fun g hg => (hb.block g (by have := s.kp.size; omega)).trans (s.kp.block g hg)⟩, own_kept s.nrow hb (Nat.le_refl _), obj_kept s.lab hb (Nat.le_refl _), obj_kept s.nb hb (Nat.le_refl _), s.xs.1.kept hb (Nat.le_refl _), s.xs.2.kept hb (Nat.le_refl _)⟩
/-- Where the nodes lie nothing else does. -/
theorem nodes_apart {w : World} {t : MT} (h : MTab w t) : (∀ g, SlB t.hA g → ¬ SlB t.nA g) ∧ ¬ SlB t.nA t.b ∧ (∀ q ∈ t.ns, ∀ g, (SlB q.e.k.a g ∨ SlB q.e.v.a g) → ¬ SlB t.nA g) := by
  have hn : ∀ g, SlB t.nA g → ∃ cs, w.heap[g]? = some (.cells cs 93 (0, 0)) := fun g ⟨ad, e, e2⟩ => by rw [e2]; exact own_typeN h.nrow ad e
  refine ⟨fun g ⟨ad, e, e2⟩ h2 => ?_, fun h2 => ?_, fun q hq g hg h2 => ?_⟩
  · obtain ⟨cs, k⟩ := own_typeN h.hrow ad e
    obtain ⟨cs', k'⟩ := hn g h2
    rw [e2, k] at k'
    injection k' with k'
    injection k' with _ k'
    exact absurd k' (by decide)
  · obtain ⟨cs', k'⟩ := hn _ h2
    rw [h.obj] at k'
    injection k' with k'
    injection k' with _ k'
    exact absurd k' (by decide)
  · obtain ⟨cs', k'⟩ := hn g h2
    obtain ⟨m1, m2, -⟩ := h.made q hq
    rcases hg with ⟨ad, e, e2⟩ | ⟨ad, e, e2⟩
    · obtain ⟨cs, k⟩ := own_typeN m1 ad e
      rw [e2, k] at k'
      injection k' with k'
      injection k' with _ k'
      exact absurd k' (by decide)
    · obtain ⟨cs, k⟩ := own_typeN m2 ad e
      rw [e2, k] at k'
      injection k' with k'
      injection k' with _ k'
      exact absurd k' (by decide)
/-- What of the table stands while towers are turned. -/
theorem InsS.rest {w W : World} {t : MT} {z g6 h : Nat} {x' : En} {la : List Nat} (s : InsS w W t z g6 x' la h) (ht : MTab w t) : W.heap[t.b]? = some (.cells #[.slice t.hA t.hs.length t.hc, .slice t.nA t.ns.length t.nc] 96 (0, 0)) ∧ Irow W 0 t.hA t.hc t.hs ∧ ∀ q ∈ t.ns, Row W 0 q.e.k.a q.e.k.c q.e.k.l ∧ Row W 0 q.e.v.a q.e.v.c q.e.v.l ∧ ErB q.e.rd := by
  obtain ⟨a1, a2, a3⟩ := nodes_apart ht
  have hin := ht.in_
  exact ⟨(s.kp.block _ ⟨hin _ (.inl rfl), a2⟩).trans ht.obj, own_same ht.hrow (fun g hg => s.kp.block g ⟨hin g (.inr (.inl hg)), a1 g hg⟩), fun q hq => ⟨own_same (ht.made q hq).1 (fun g hg => s.kp.block g ⟨hin g (.inr (.inr (.inr ⟨q, hq, .inl hg⟩))), a3 q hq g (.inl hg)⟩), own_same (ht.made q hq).2.1 (fun g hg => s.kp.block g ⟨hin g (.inr (.inr (.inr ⟨q, hq, .inr hg⟩))), a3 q hq g (.inr hg)⟩), (ht.made q hq).2.2⟩⟩
/-- One more height: the new node's tower, and then the last one's. -/
theorem InsS.step {w W : World} {t : MT} {z g6 h : Nat} {x' : En} {la : List Nat} (s : InsS w W t z g6 x' la h) (ht : MTab w t) (hz : w.heap.size ≤ z) (hg : w.heap.size ≤ g6) (hzg : z ≠ g6) (hh : h < 12) (hla : ∀ h, h < 12 → la.getD h 0 < t.ns.length) :
    ∃ ad : Addr, t.nA = some ad ∧ (W.cell? ⟨z, h, none⟩ = some (.int .i64 ((la.getD h 0 : Nat) : Int)) ∧ W.cell? ⟨t.b, 1, none⟩ = some (.slice (some ad) t.ns.length t.nc) ∧ W.cell? ⟨(ad.add (la.getD h 0 * 16)).block, (ad.add (la.getD h 0 * 16)).off + 4 + h, none⟩ = some (.int .i64 ((nx t.ns h (la.getD h 0) : Nat) : Int)) ∧ (∃ u, W.cell? ⟨g6, 4 + h, none⟩ = some u) ∧ W.frozen? ⟨g6, 4 + h, none⟩ = false) ∧
    ∀ W1, W1 = W.setCell ⟨g6, 4 + h, none⟩ (.int .i64 ((nx t.ns h (la.getD h 0) : Nat) : Int)) → W1.cell? ⟨t.b, 1, none⟩ = some (.slice (some ad) t.ns.length t.nc) ∧ (∃ u, W1.cell? ⟨(ad.add (la.getD h 0 * 16)).block, (ad.add (la.getD h 0 * 16)).off + 4 + h, none⟩ = some u) ∧ W1.frozen? ⟨(ad.add (la.getD h 0 * 16)).block, (ad.add (la.getD h 0 * 16)).off + 4 + h, none⟩ = false ∧ InsS w (W1.setCell ⟨(ad.add (la.getD h 0 * 16)).block, (ad.add (la.getD h 0 * 16)).off + 4 + h, none⟩ (.int .i64 (t.ns.length : Int))) t z g6 x' la (h + 1) := by
  obtain ⟨g, hA, -, hgs, -⟩ := ht.nrow.place ht.skip.pos
  have hl := hla h hh
  obtain ⟨a, ha⟩ : ∃ a, la.getD h 0 = a := ⟨_, rfl⟩
  rw [ha] at hl ⊢
  have hlr : a < (raise t.ns la t.ns.length h).length := by rw [raise_len]; exact hl
  have htr := raise_tall ht.tall la t.ns.length h
  have e0 : ((⟨g, 0, none⟩ : Addr).add (a * 16)) = ⟨g, a * 16, none⟩ := add_zero_ g _
  have hnxr : nx (raise t.ns la t.ns.length h) h a = nx t.ns h a := by rw [raise_nx ht.tall hla (by omega), if_neg (by omega)]
  obtain ⟨q, hq⟩ : ∃ q, (raise t.ns la t.ns.length h)[a]? = some q := ⟨_, List.getElem?_eq_getElem hlr⟩
  have hat : ∀ V, Nrow V 0 t.nA t.nc (raise t.ns la t.ns.length h) → V.cell? ⟨g, a * 16 + 4 + h, none⟩ = some (.int .i64 ((nx t.ns h a : Nat) : Int)) := fun V hV => by
    have h1 := (lies_node_at (hA ▸ hV.lies) hq).2 h hh
    rw [e0, ← nx_of hq, hnxr] at h1
    exact h1
  have hne : g6 ≠ g := by omega
  have hb1 : SlB t.nA g := ⟨_, hA, rfl⟩
  refine ⟨⟨g, 0, none⟩, hA, ⟨?_, ?_, ?_, ⟨.int .i64 (((towerOf t.ns la h).getD h 0 : Nat) : Int), ?_⟩, by simp [World.frozen?, s.nb]⟩, fun W1 hW1 => ?_⟩
  · unfold World.cell?
    simp only
    rw [s.lab]
    simp only [List.getElem?_toArray]
    rw [tvals_get la hh, ha]
    rfl
  · rw [← hA]; simp [World.cell?, (s.rest ht).1]
  · rw [e0]; exact hat W s.nrow
  · unfold World.cell?
    simp only
    rw [s.nb]
    simp only [List.getElem?_toArray]
    rw [List.getElem?_append_right (by simp [En.cells])]
    have : 4 + h - x'.cells.length = h := by simp [En.cells]
    rw [this, tvals_get _ hh]
    rfl
  · have hset : ∀ k, k ≠ g6 → W1.heap[k]? = W.heap[k]? := fun k hk => by rw [hW1]; exact Below.heap_setCell W ⟨g6, 4 + h, none⟩ _ k (by simp only; omega)
    have hnr : Nrow W1 0 t.nA t.nc (raise t.ns la t.ns.length h) := own_same s.nrow (fun k hk => hset k (by obtain ⟨ad, e, e2⟩ := hk; rw [hA] at e; injection e with e; subst e; simp only at e2; omega))
    obtain ⟨t1, t2, t3⟩ := hnr.turn (h := h) hA htr hlr hh
    rw [e0]
    rw [Nat.add_assoc]
    have hob : W1.heap[t.b]? = W.heap[t.b]? := hset _ (by have := ht.in_ _ (.inl rfl); omega)
    refine ⟨?_, t1, t2, ?_⟩
    · rw [← hA]; simp [World.cell?, hob, (s.rest ht).1]
    · have hset2 : ∀ k, k ≠ g → (W1.setCell ⟨g, a * 16 + (4 + h), none⟩ (.int .i64 (t.ns.length : Int))).heap[k]? = W1.heap[k]? := fun k hk => Below.heap_setCell W1 ⟨g, a * 16 + (4 + h), none⟩ _ k (by simp only; omega)
      have hsz : (W1.setCell ⟨g, a * 16 + (4 + h), none⟩ (.int .i64 (t.ns.length : Int))).heap.size = W.heap.size := by rw [hW1]; simp
      have hall : ∀ k, k ≠ g6 → k ≠ g → (W1.setCell ⟨g, a * 16 + (4 + h), none⟩ (.int .i64 (t.ns.length : Int))).heap[k]? = W.heap[k]? := fun k k1 k2 => (hset2 k k2).trans (hset k k1)
      refine ⟨⟨by rw [hW1]; exact s.kp.os, by rw [hW1]; exact s.kp.tape, by rw [hW1]; exact s.kp.output, by rw [hsz]; exact s.kp.size, fun k hk => ?_⟩, ?_, ?_, ?_, ?_, ?_⟩
      · refine (hall k (by omega) (fun e => ?_)).trans (s.kp.block k hk)
        subst e
        exact hk.2 hb1
      · have := t3 t.ns.length
        rw [raise, ha]
        exact this
      · rw [hall z (by omega) (by omega)]; exact s.lab
      · rw [hset2 g6 hne, hW1]
        simp only [World.setCell, Array.getElem?_modify, if_true, s.nb, Option.map_some]
        rw [List.setIfInBounds_toArray, List.set_append_right _ _ (by simp [En.cells])]
        have e4 : 4 + h - x'.cells.length = h := by simp [En.cells]
        rw [e4, tvals_set (towerOf_len _ _ _) hh, towerOf_step t.ns la hh, ha]
        simp
      · refine own_same s.xs.1 (fun k hk => ?_)
        obtain ⟨ad, e, e2⟩ := hk
        have hi := own_in s.xs.1 ad e
        refine hall k (fun e3 => ?_) (by omega)
        obtain ⟨cs, k1⟩ := own_typeN s.xs.1 ad e
        rw [← e2, e3, s.nb] at k1
        injection k1 with k1
        injection k1 with _ k1
        exact absurd k1 (by decide)
      · refine own_same s.xs.2 (fun k hk => ?_)
        obtain ⟨ad, e, e2⟩ := hk
        have hi := own_in s.xs.2 ad e
        refine hall k (fun e3 => ?_) (by omega)
        obtain ⟨cs, k1⟩ := own_typeN s.xs.2 ad e
        rw [← e2, e3, s.nb] at k1
        injection k1 with k1
        injection k1 with _ k1
        exact absurd k1 (by decide)
theorem nrow_placed (w : World) (ty : TypeId) (B : Nat) (A : Option Addr) (c : Nat) (T : List Nd) (y : Nd) (C : Option Addr) (cm : Nat) (h : Nrow w B A c T) (hm : Lies w C (nvals [y])) (hB : B ≤ w.heap.size) (hr : (T.length + 1) * 160 ≤ 140737488355328) :
    ∃ A' c' w', (Builtin.append_ #[94, 94] ty #[.slice A T.length c, .slice C 1 cm]).run Try.prog w = .ok (.slice A' (T.length + 1) c') w' ∧ Nrow w' B A' c' (T ++ [y]) ∧ Below B w w' ∧ w.grownBy w' (Value.slice A T.length c).ownBlock ∧ ∀ ad, A' = some ad → (∃ a0, A = some a0 ∧ ad.block = a0.block) ∨ w.heap.size ≤ ad.block := by
  obtain ⟨i, hi, hz0, hz1, hz2⟩ := info_parts info93
  obtain ⟨A', c', w', r, h2, h3, h4⟩ := run_append_nrow w ty B A c T [y] C cm h hm hB hr
  refine ⟨A', c', w', r, h2, h3, h4, fun ad ha => ?_⟩
  obtain ⟨cd, rfl, hc⟩ := hm.resolve_left (by simp [nvals, Nd.cells, En.cells])
  rcases h.2 with ⟨hv, h0⟩ | ⟨g, cap, cur, hv, hbg, hg, hnc, hcm, hcs, htake⟩
  · injection hv with e1 e2 e3
    subst e1
    subst e3
    have hr := run_append_nil (P := Try.prog) w 94 ty 93 i zNode Try.underlying94 hi hz0 cd 1 cm (nvals [y]) (by rw [hz1]; rfl) hc (by decide) (by decide) (by rw [hz2]; decide)
    rw [e2] at r
    simp only [List.length_singleton] at r
    rw [hr] at r
    injection r with r1 r2
    injection r1 with r1
    rw [ha] at r1
    injection r1 with r1
    rw [← r1]
    exact .inr (Nat.le_refl _)
  · injection hv with e1 e2 e3
    subst e1
    subst e3
    by_cases hroom : T.length + 1 ≤ c
    · obtain ⟨w2, hr, -, -⟩ := run_append_own_spare (P := Try.prog) w B 94 ty 93 i 16 Try.underlying94 hi hz1 g T.length c (nvals T) h cd 1 cm (nvals [y]) rfl hc nvals_one hroom
      simp only [List.length_singleton] at r
      rw [hr] at r
      injection r with r1 r2
      injection r1 with r1
      rw [ha] at r1
      injection r1 with r1
      exact .inl ⟨_, rfl, by rw [← r1]⟩
    · have hr := run_append_grow (P := Try.prog) w 94 ty 93 i zNode Try.underlying94 hi hz0 ⟨g, 0, none⟩ T.length c (nvals T) (by rw [hz1, nvals_len]) (fun j u hu => World.ownsRow.cells h (g := g) rfl j u hu) cd 1 cm (nvals [y]) (by rw [hz1]; rfl) hc (by omega) (by omega) (by rw [hz2]; exact growslice_fits (by omega) (by omega))
      simp only [List.length_singleton] at r
      rw [hr] at r
      injection r with r1 r2
      injection r1 with r1
      rw [ha] at r1
      injection r1 with r1
      rw [← r1]
      exact .inr (Nat.le_refl _)
/-- A node's append, as a step of a region that draws. -/
theorem step_append_nrow (w : World) {ops : Array Oper} {o : Oper} {a : Act} {K : Act → World → Prop} {Q : Exit → Act → World → Prop} {E : Prop} (hgd : o.guard = none) (s x : Operand)
    (ho : o.op = .call { callee := .builtin .append, args := #[s, x], argTypes := #[94, 94] })
    (B : Nat) (A : Option Addr) (c : Nat) (T : List Nd) (y : Nd) (C : Option Addr) (n cm : Nat) (hs : a.eval s = .slice A n c) (hx : a.eval x = .slice C 1 cm) (en : T.length = n) (h : Nrow w B A c T) (hm : Lies w C (nvals [y])) (hB : B ≤ w.heap.size) (hr : (T.length + 1) * 160 ≤ 140737488355328)
    (k : ∀ A' c' w', Nrow w' B A' c' (T ++ [y]) → Below B w w' → w.grownBy w' (Value.slice A n c).ownBlock → (∀ ad, A' = some ad → (∃ a0, A = some a0 ∧ ad.block = a0.block) ∨ w.heap.size ≤ ad.block) → K (a.put o.dst (.slice A' (n + 1) c')) w') : if Region.wanted o (yielded ops a.tmps) = true then Oper.wp Try.prog o a w K Q else E := by
  have hw : Region.wanted o (yielded ops a.tmps) = true := by simp [Region.wanted, hgd]
  rw [if_pos hw]
  subst en
  obtain ⟨A', c', w', r, h2, h3, h4, h5⟩ := nrow_placed w o.type B A c T y C cm h hm hB hr
  have k' := k A' c' w' h2 h3 h4 h5
  unfold Oper.wp execOp
  simp only [ho, resolve, invoke, builtin, Sem.run_bind, Sem.run_pure, Result.andThen_ok, List.map_toArray, List.map_cons, List.map_nil, hs, hx, r]
  exact k'
theorem obj_beside {w w' : World} {B c g : Nat} {A : Option Addr} {T : List Nd} {cs : Array Value} {ty : TypeId} {fr : Nat × Nat} (h : w.heap[g]? = some (.cells cs ty fr)) (hs : Nrow w B A c T) (ht : ty ≠ 93) (hg : w.grownBy w' (Value.slice A T.length c).ownBlock) : w'.heap[g]? = some (.cells cs ty fr) := by
  have hlt := (Array.getElem?_eq_some_iff.1 h).1
  rw [hg.block g hlt, h]
  intro e
  rcases hs.2 with ⟨hn, _⟩ | ⟨g', cap', cur', e', _, h2', _⟩
  · rw [hn] at e
    simp [Value.ownBlock] at e
  · rw [e'] at e
    obtain rfl : g = g' := by simpa [Value.ownBlock] using e
    rw [h] at h2'
    injection h2' with h2'
    injection h2' with _ h2'
    exact ht h2'
theorem lit_node (w : World) (q : Nd) (cs : Array Value) (e : cs = q.cells.toArray) : Lies (w.alloc (.cells cs 93)) (some ⟨w.heap.size, 0, none⟩) (nvals [q]) := by
  have := lit_lies w (nvals [q]) cs (by rw [e]; simp [nvals]) 93
  exact this
/-- What Put leaves: the table with one more, all else as it was. -/
structure Tds (S S' : Nat → Prop) (w w' : World) : Prop where
  os : w'.os = w.os
  tape : w'.tape = w.tape
  output : w'.output = w.output
  size : w.heap.size ≤ w'.heap.size
  block : ∀ g, g < w.heap.size → ¬ S g → w'.heap[g]? = w.heap[g]?
  grows : ∀ g, S' g → S g ∨ w.heap.size ≤ g
theorem Tds.refl (S : Nat → Prop) (w : World) : Tds S S w w := ⟨rfl, rfl, rfl, Nat.le_refl _, fun _ _ _ => rfl, fun _ h => .inl h⟩
theorem Tds.of_below {S : Nat → Prop} {w w' : World} (h : Below w.heap.size w w') : Tds S S w w' := ⟨h.os, h.tape, h.output, h.size, fun g hg _ => h.block g hg, fun _ h => .inl h⟩
theorem Tds.trans {S S' S'' : Nat → Prop} {w w1 w2 : World} (h : Tds S S' w w1) (k : Tds S' S'' w1 w2) : Tds S S'' w w2 :=
  ⟨k.os.trans h.os, k.tape.trans h.tape, k.output.trans h.output, Nat.le_trans h.size k.size, fun g hg hs => (k.block g (by have := h.size; omega) (fun hs' => by rcases h.grows g hs' with e | e; exact hs e; omega)).trans (h.block g hg hs), fun g hg => by
    rcases k.grows g hg with e | e
    · exact h.grows g e
    · exact .inr (Nat.le_trans h.size e)⟩
/-- What stands when the node has been appended: ahead of the last store. -/
structure Ins9 (w W : World) (t : MT) (A8 : Option Addr) (c8 : Nat) (N : List Nd) (x' : En) : Prop where
  size : w.heap.size ≤ W.heap.size
  os : W.os = w.os
  tape : W.tape = w.tape
  output : W.output = w.output
  block : ∀ g, g < w.heap.size → ¬ SlB t.nA g → W.heap[g]? = w.heap[g]?
  nrow : Nrow W 0 A8 c8 N
  place : ∀ g, SlB A8 g → SlB t.nA g ∨ w.heap.size ≤ g
  obj : W.heap[t.b]? = some (.cells #[.slice t.hA t.hs.length t.hc, .slice t.nA t.ns.length t.nc] 96 (0, 0))
  xs : Row W w.heap.size x'.k.a x'.k.c x'.k.l ∧ Row W w.heap.size x'.v.a x'.v.c x'.v.l
theorem Ins9.done {w W : World} {t : MT} {A8 : Option Addr} {c8 j : Nat} {la : List Nat} {x' x : En} (s : Ins9 w W t A8 c8 (putN t.ns la j x') x') (h : MTab w t) (hx : x'.rd = x.rd) (hxb : ErB x.rd) (hlast : LastOk t.ns x.rd la) (hne : nx t.ns 0 (la.getD 0 0) = 0 ∨ ordE (eo t.ns (nx t.ns 0 (la.getD 0 0))) x.rd ≠ 0) (hg : GoodE x.rd) (h1 : 1 ≤ j) (h12 : j ≤ 12) :
    ∃ t' : MT, t'.b = t.b ∧ MTab (W.setCell ⟨t.b, 1, none⟩ (.slice A8 (t.ns.length + 1) c8)) t' ∧ t'.has.Perm (x.rd :: t.has) ∧ t'.ns.length = t.ns.length + 1 ∧ Tds t.own t'.own w (W.setCell ⟨t.b, 1, none⟩ (.slice A8 (t.ns.length + 1) c8)) := by
  obtain ⟨C', hsk, hperm⟩ := put_skip (x := x') h.tall h.skip (by rw [hx]; exact hlast) (by rw [hx]; exact hne) h1 h12 (by rw [hx]; exact hg)
  rw [hx] at hperm
  obtain ⟨W9, hW9⟩ : ∃ W9, W.setCell ⟨t.b, 1, none⟩ (.slice A8 (t.ns.length + 1) c8) = W9 := ⟨_, rfl⟩
  rw [hW9]
  have hoth : ∀ g, g ≠ t.b → W9.heap[g]? = W.heap[g]? := fun g hg => by rw [← hW9]; exact Below.heap_setCell W ⟨t.b, 1, none⟩ _ g (by simp only; omega)
  have hobj : W9.heap[t.b]? = some (.cells #[.slice t.hA t.hs.length t.hc, .slice A8 (t.ns.length + 1) c8] 96 (0, 0)) := by
    rw [← hW9]
    simp [World.setCell, Array.getElem?_modify, s.obj]
  have hsz : W9.heap.size = W.heap.size := by rw [← hW9]; simp
  have hin := h.in_
  obtain ⟨a1, a2, a3⟩ := nodes_apart h
  have htype : ∀ {B : Nat} {e : TypeId} {size : Nat} {A : Option Addr} {n c m : Nat} {xs : List Value}, W.ownsRow B e size (.slice A n c) m xs → e ≠ 96 → ∀ g, SlB A g → g ≠ t.b := fun {B e size A n c m xs} hr ht g ⟨ad, e1, e2⟩ e3 => by
    obtain ⟨cs, k⟩ := own_typeN hr ad e1
    rw [← e2, e3, s.obj] at k
    injection k with k
    injection k with _ k
    exact ht k.symm
  have hrowH : Irow W 0 t.hA t.hc t.hs := own_same h.hrow (fun g hg => s.block g (hin g (.inr (.inl hg))) (a1 g hg))
  have hmade : ∀ q ∈ t.ns, Row W 0 q.e.k.a q.e.k.c q.e.k.l ∧ Row W 0 q.e.v.a q.e.v.c q.e.v.l := fun q hq => ⟨own_same (h.made q hq).1 (fun g hg => s.block g (hin g (.inr (.inr (.inr ⟨q, hq, .inl hg⟩)))) (a3 q hq g (.inl hg))), own_same (h.made q hq).2.1 (fun g hg => s.block g (hin g (.inr (.inr (.inr ⟨q, hq, .inr hg⟩)))) (a3 q hq g (.inr hg)))⟩
  have hmem : ∀ q ∈ putN t.ns la j x', (∃ p ∈ t.ns, p.e = q.e) ∨ q.e = x' := fun q hq => by
    rcases List.mem_append.1 hq with e | e
    · exact .inl (raise_mem e)
    · exact .inr (by rw [List.mem_singleton.1 e])
  refine ⟨⟨t.b, t.hA, t.hc, t.hs, A8, c8, putN t.ns la j x', C'⟩, rfl, ⟨by rw [putN_len]; exact hobj, own_same hrowH (fun g hg => hoth g (htype hrowH (by decide) g hg)), own_same s.nrow (fun g hg => hoth g (htype s.nrow (by decide) g hg)), fun q hq => ?_, putN_tall h.tall la j x', hsk⟩, hperm, putN_len _ _ _ _, ⟨by rw [← hW9]; exact s.os, by rw [← hW9]; exact s.tape, by rw [← hW9]; exact s.output, by rw [hsz]; exact s.size, fun g hg hn => ?_, fun g hg => ?_⟩⟩
  · rcases hmem q hq with ⟨p, hp, e⟩ | e
    · rw [← e]
      obtain ⟨m1, m2⟩ := hmade p hp
      exact ⟨own_same m1 (fun g hg => hoth g (htype m1 (by decide) g hg)), own_same m2 (fun g hg => hoth g (htype m2 (by decide) g hg)), (h.made p hp).2.2⟩
    · rw [e]
      exact ⟨own_mono (own_same s.xs.1 (fun g hg => hoth g (htype s.xs.1 (by decide) g hg))) (Nat.zero_le _), own_mono (own_same s.xs.2 (fun g hg => hoth g (htype s.xs.2 (by decide) g hg))) (Nat.zero_le _), by rw [hx]; exact hxb⟩
  · exact (hoth g (fun e => hn (.inl e))).trans (s.block g hg (fun e => hn (.inr (.inr (.inl e)))))
  · rcases hg with e | e | e | ⟨q, hq, e⟩
    · exact .inl (.inl e)
    · exact .inl (.inr (.inl e))
    · rcases s.place g e with e | e
      · exact .inl (.inr (.inr (.inl e)))
      · exact .inr e
    · rcases hmem q hq with ⟨p, hp, e2⟩ | e2
      · rw [← e2] at e
        exact .inl (.inr (.inr (.inr ⟨p, hp, e⟩)))
      · rw [e2] at e
        rcases e with ⟨ad, k1, k2⟩ | ⟨ad, k1, k2⟩
        · exact .inr (by rw [k2]; exact (own_in s.xs.1 ad k1).1)
        · exact .inr (by rw [k2]; exact (own_in s.xs.2 ad k1).1)
end Go.Proofs.Ytcffpkflijpdjaa
