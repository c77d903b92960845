/-
  Walks: whether entries are what a row of the index tells. Walks: a block of a table, read once. A law for a loop over an iterator of the program's own: a round may go on, return, or break; what the loop itself lays hangs on its two blocks alone. Walks: a place is sought. Walks: the two questions of a table's seeking. Memory: what hangs on none of somebody else's blocks.
-/
import Derived.Test.YtmgggddnfeojmaaGreatJO05
import Derived.Test.YtmgggddnfeojmaaGreatJO14
set_option linter.unusedSimpArgs false
set_option linter.unusedVariables false
namespace Go.Proofs.YtmgggddnfeojmaaGreat
open Go.RowKit
/-- The cells of an entry at a place. -/
def E4 (W : World) (a : Addr) (ka : Option Addr) (kn kc : Nat) (s : Int) (d : Bool) (va : Option Addr) (vn vc : Nat) : Prop :=
  W.cell? a = some (.slice ka kn kc) ∧ W.cell? ⟨a.block, a.off + 1, none⟩ = some (.int .i64 s) ∧ W.cell? ⟨a.block, a.off + 2, none⟩ = some (.bool d) ∧ W.cell? ⟨a.block, a.off + 3, none⟩ = some (.slice va vn vc)
theorem row_seven {w : World} {A : Option Addr} {l : List Rm} {j : Nat} {r : Rm} (h : Lies w A (rvals l)) (hr : l[j]? = some r) : ∃ ad, A = some ad ∧ w.cell? (ad.add (j * 7)) = some (.slice r.k.a r.k.l.length r.k.c) ∧ w.cell? ⟨(ad.add (j * 7)).block, (ad.add (j * 7)).off + 1, none⟩ = some (.int .i64 r.s) ∧ w.cell? ⟨(ad.add (j * 7)).block, (ad.add (j * 7)).off + 2, none⟩ = some (.bool false) ∧ w.cell? ⟨(ad.add (j * 7)).block, (ad.add (j * 7)).off + 3, none⟩ = some (.slice none 0 0) ∧ w.cell? ⟨(ad.add (j * 7)).block, (ad.add (j * 7)).off + 4, none⟩ = some (.int .i64 r.n) ∧ w.cell? ⟨(ad.add (j * 7)).block, (ad.add (j * 7)).off + 5, none⟩ = some (.int .i64 r.fro) ∧ w.cell? ⟨(ad.add (j * 7)).block, (ad.add (j * 7)).off + 6, none⟩ = some (.int .i64 r.tu) := by
  obtain ⟨ad, e, k⟩ := lies_row h hr
  exact ⟨ad, e, k 0 _ rfl, k 1 _ rfl, k 2 _ rfl, k 3 _ rfl, k 4 _ rfl, k 5 _ rfl, k 6 _ rfl⟩
/-- The entry that a row tells of, as it lies. -/
def Rm.en (r : Rm) : En := ⟨r.k, r.s, false, ⟨none, 0, []⟩⟩
theorem in_nil (w : World) : In w none [] ([] : List Int).length 0 := ⟨rfl, Nat.le_refl _, by decide, Bys.nil _ _, fun x h => by cases h⟩
theorem Rm.en_in {w : World} {r : Rm} (h : In w r.k.a r.k.l r.k.l.length r.k.c) : EIn w r.en := ⟨h, in_nil w⟩
theorem succ_facts {i n : Nat} (h : i + 1 < n) (g : (n : Int) ≤ 9223372036854775807) : (0 : Int) ≤ (i : Int) + 1 ∧ IntKind.i64.wrap ((i : Int) + 1) = i + 1 ∧ wrap64 ((i : Int) + 1) = i + 1 ∧ ((i : Int) + 1).toNat = i + 1 := by
  refine ⟨by omega, ?_, ?_, by omega⟩
  · rw [IntKind.wrap_i64]; omega
  · unfold wrap64; omega
set_option maxRecDepth 100000 in
set_option maxHeartbeats 16000000 in
theorem fits_any (t : Tm) (i : Nat) (r : Rm) (A : Option Addr) (l : List En) (n c : Nat) (w : World) (h : TabC w t) (hr : t.R[i]? = some r) (hn : l.length = n) (hL : Lies w A (evals l)) (hi : EIns w l) (hc : n ≤ c) (hc9 : (c : Int) ≤ 9223372036854775807) :
    Calls Tryz.prog 94 #[.pointer (some ⟨t.b, 0, none⟩), .int .i64 i, .slice A n c] w fun e w' => e = .returned (.bool (fitsP t.tb i r.rd (ers l))) ∧ Below w.heap.size w w' := by
  have HT : Hid (∀ W, Below w.heap.size w W → TabC W t) := Lib.hid (fun W hb => h.kept hb)
  have HE : Hid (∀ W, Below w.heap.size w W → Lies W A (evals l) ∧ EIns W l) := Lib.hid (fun W hb => ⟨hL.kept hb, hi.kept hb⟩)
  have HI : Hid (∀ W, Below w.heap.size w W → ∀ j (s : Rm), t.R[j]? = some s → EIn W s.en) := Lib.hid (fun W hb j s hs => Rm.en_in ((h.kept hb).keys s (List.mem_of_getElem? hs)))
  have HN := Lib.hid hn
  have HR := Lib.hid hr
  have hfit := h.ok.fit r (List.mem_of_getElem? hr)
  have i9 : Hid (i < t.R.length ∧ (t.R.length : Int) ≤ 9223372036854775807) := Lib.hid ⟨(List.getElem?_eq_some_iff.1 hr).1, by have := h.rcap; omega⟩
  have t1 := (tbl_cells (d := .slice t.da t.L.length t.dc) (g := .slice t.ga t.K.length t.gc) (ra := t.ra) (rn := t.R.length) (rc := t.rc) (mb := t.mb) (cnt := t.cnt) h.blk).1.2.1
  obtain ⟨ad, hra, r0, r1, r2, r3, r4, r5, r6⟩ := row_seven h.rows hr
  rw [hra] at t1
  have HRA := Lib.hid hra
  obtain ⟨rn, hrn⟩ : ∃ q, t.R.length = q := ⟨_, rfl⟩
  obtain ⟨kn, hkn⟩ : ∃ q, r.k.l.length = q := ⟨_, rfl⟩
  rw [hkn] at r0
  rw [hrn] at t1 i9
  have i0 : (i : Int) < rn := by have := i9.out; omega
  have i1 : (0 : Int) ≤ i := by omega
  have HRN := Lib.hid hrn
  have HKN := Lib.hid hkn
  clear hra hrn hkn h hL hi hr
  have HKR : Hid (∀ W : World, Below w.heap.size w W → (W.heap[w.heap.size]? = some (.cells #[.slice r.k.a kn r.k.c, .int .i64 r.s, .bool false, .slice none 0 0, .int .i64 r.n, .int .i64 r.fro, .int .i64 r.tu] 100 (0, 0))) → W.cell? ⟨w.heap.size, 0, none⟩ = some (.slice r.k.a kn r.k.c) ∧ W.cell? ⟨w.heap.size, 1, none⟩ = some (.int .i64 r.s) ∧ W.cell? ⟨w.heap.size, 2, none⟩ = some (.bool false) ∧ W.cell? ⟨w.heap.size, 3, none⟩ = some (.slice none 0 0) ∧ W.cell? ⟨w.heap.size, 4, none⟩ = some (.int .i64 r.n)) := Lib.hid (fun W _ hb => by
    obtain ⟨⟨c0, c1, c2, c3, c4, -, -⟩, -⟩ := seven_facts hb
    exact ⟨c0, c1, c2, c3, c4⟩)
  obtain ⟨w1, hw1⟩ : ∃ w1, w.alloc (.cells #[.slice r.k.a kn r.k.c, .int .i64 r.s, .bool false, .slice none 0 0, .int .i64 r.n, .int .i64 r.fro, .int .i64 r.tu] 100) = w1 := ⟨_, rfl⟩
  have B1 : Hid (Below w.heap.size w w1) := Lib.hid (hw1 ▸ below_new _ _)
  have BW : Hid (∀ W, Below w1.heap.size w1 W → Below w.heap.size w W) := Lib.hid (fun W hb => B1.out.trans (hb.mono B1.out.size))
  have HB : Hid (∀ W : World, Below w1.heap.size w1 W → W.cell? ⟨w.heap.size, 0, none⟩ = some (.slice r.k.a kn r.k.c) ∧ W.cell? ⟨w.heap.size, 1, none⟩ = some (.int .i64 r.s) ∧ W.cell? ⟨w.heap.size, 2, none⟩ = some (.bool false) ∧ W.cell? ⟨w.heap.size, 3, none⟩ = some (.slice none 0 0) ∧ W.cell? ⟨w.heap.size, 4, none⟩ = some (.int .i64 r.n)) := Lib.hid (fun W hb => HKR.out W (BW.out W hb) (obj_kept (by rw [← hw1]; exact heap_alloc_new w _) hb (Nat.le_refl _)))
  have HW1 := Lib.hid hw1
  clear HKR hw1
  by_cases g1 : (n : Int) = r.n
  · have hpos : 1 ≤ n := by omega
    have hx := List.getElem?_eq_getElem (l := l) (i := 0) (by have := HN.out; omega)
    generalize l[0]'(by have := HN.out; omega) = x at hx
    have hy := List.getElem?_eq_getElem (l := l) (i := n - 1) (by have := HN.out; omega)
    generalize l[n - 1]'(by have := HN.out; omega) = y at hy
    have hF : fitsP t.tb i r.rd (ers l) = (decide (ordE x.rd r.rd.first = 0) && (match t.tb.rows[i + 1]? with | some r' => decide (ordE y.rd r'.first < 0) | none => decide (y.k.l = t.K))) := by
      unfold fitsP
      rw [show decide (((ers l).length : Int) = r.rd.count) = true by rw [ers_len, HN.out]; exact decide_eq_true g1]
      rw [show (ers l).head? = some x.rd by rw [List.head?_eq_getElem?]; exact ers_get hx, show (ers l).getLast? = some y.rd by rw [List.getLast?_eq_getElem?, ers_len, HN.out]; exact ers_get hy]
      rfl
    obtain ⟨z2, hz2⟩ : ∃ z2, (match t.tb.rows[i + 1]? with | some r' => decide (ordE y.rd r'.first < 0) | none => decide (y.k.l = t.K)) = z2 := ⟨_, rfl⟩
    rw [hF, hz2]
    have HZ2 := Lib.hid hz2
    clear hz2
    obtain ⟨ae, rfl, -⟩ := lies_entry (HE.out _ (Below.refl _ _)).1 hx
    obtain ⟨xn, hxn⟩ : ∃ q, x.k.l.length = q := ⟨_, rfl⟩
    obtain ⟨xvn, hxvn⟩ : ∃ q, x.v.l.length = q := ⟨_, rfl⟩
    have HXE : Hid (∀ W, Below w.heap.size w W → (W.cell? ae = some (.slice x.k.a xn x.k.c) ∧ W.cell? ⟨ae.block, ae.off + 1, none⟩ = some (.int .i64 x.s) ∧ W.cell? ⟨ae.block, ae.off + 2, none⟩ = some (.bool x.d) ∧ W.cell? ⟨ae.block, ae.off + 3, none⟩ = some (.slice x.v.a xvn x.v.c))) := Lib.hid (fun W hb => by
      have := lies_entry_at (HE.out W hb).1 hx
      unfold AtE at this
      rw [hxn, hxvn] at this
      simpa [Addr.add] using this)
    have HS : Hid (∀ W, Below w1.heap.size w1 W → (W.cell? ⟨w.heap.size, 0, none⟩ = some (.slice r.k.a kn r.k.c) ∧ W.cell? ⟨w.heap.size, 1, none⟩ = some (.int .i64 r.s) ∧ W.cell? ⟨w.heap.size, 2, none⟩ = some (.bool false) ∧ W.cell? ⟨w.heap.size, 3, none⟩ = some (.slice none 0 0) ∧ W.cell? ⟨w.heap.size, 4, none⟩ = some (.int .i64 r.n)) ∧ (W.cell? ae = some (.slice x.k.a xn x.k.c) ∧ W.cell? ⟨ae.block, ae.off + 1, none⟩ = some (.int .i64 x.s) ∧ W.cell? ⟨ae.block, ae.off + 2, none⟩ = some (.bool x.d) ∧ W.cell? ⟨ae.block, ae.off + 3, none⟩ = some (.slice x.v.a xvn x.v.c))) := Lib.hid (fun W hb => ⟨HB.out W hb, HXE.out W (BW.out W hb)⟩)
    have HO : Hid (∀ W, Below w.heap.size w W → Calls Tryz.prog 56 #[.agg #[.slice x.k.a xn x.k.c, .int .i64 x.s, .bool x.d, .slice x.v.a xvn x.v.c], .agg #[.slice r.k.a kn r.k.c, .int .i64 r.s, .bool false, .slice none 0 0]] W fun e w' => e = .returned (.int .i64 (ordE x.rd r.rd.first)) ∧ Below W.heap.size W w') := Lib.hid (fun W hb => by
      have := order_any x r.en W ((HE.out W hb).2 x (List.mem_of_getElem? hx)) (HI.out W hb i r HR.out)
      rw [En.val_eq, En.val_eq, hxn] at this
      simp only [Rm.en, HKN.out, hxvn, List.length_nil] at this
      exact this)
    obtain ⟨m, hm⟩ : ∃ m, n = m + 1 := ⟨n - 1, by omega⟩
    rw [show n - 1 = m by omega] at hy
    obtain ⟨yn, hyn⟩ : ∃ q, y.k.l.length = q := ⟨_, rfl⟩
    obtain ⟨yvn, hyvn⟩ : ∃ q, y.v.l.length = q := ⟨_, rfl⟩
    have HYE : Hid (∀ W, Below w.heap.size w W → W.cell? (ae.add (m * 4)) = some (.slice y.k.a yn y.k.c) ∧ W.cell? ⟨(ae.add (m * 4)).block, (ae.add (m * 4)).off + 1, none⟩ = some (.int .i64 y.s) ∧ W.cell? ⟨(ae.add (m * 4)).block, (ae.add (m * 4)).off + 2, none⟩ = some (.bool y.d) ∧ W.cell? ⟨(ae.add (m * 4)).block, (ae.add (m * 4)).off + 3, none⟩ = some (.slice y.v.a yvn y.v.c)) := Lib.hid (fun W hb => by
      have := lies_entry_at (HE.out W hb).1 hy
      unfold AtE at this
      rwa [hyn, hyvn] at this)
    have HYI : Hid (∀ W, Below w.heap.size w W → EIn W y) := Lib.hid (fun W hb => (HE.out W hb).2 y (List.mem_of_getElem? hy))
    have HYN := Lib.hid (And.intro hyn hyvn)
    have e1 : (n : Int) - 1 = m := by omega
    have e2 : (m : Int) < n := by omega
    clear hyn hyvn hy hm
    obtain ⟨b, hb⟩ : ∃ b, decide (ordE x.rd r.rd.first = 0) = b := ⟨_, rfl⟩
    rw [hb]
    obtain ⟨od, hod⟩ : ∃ q, ordE x.rd r.rd.first = q := ⟨_, rfl⟩
    rw [hod] at HO hb
    have HBO : Hid ((od != 0) = !b) := Lib.hid (by rw [← hb]; by_cases g : od = 0 <;> simp [g])
    have g1e : Hid ((n : Int) = r.n) := Lib.hid g1
    have j2 : (0 : Int) < n := by omega
    have j3 : 0 < n := by omega
    have j4 : n ≠ 0 := by omega
    clear hb hod hx hF g1
    go_enter Tryz.func94, Tryz.ntmps94
    go_upto_region 2 with fail
    rw [HW1.out]
    refine wp_region_held (S := fun W => (W.cell? ⟨w.heap.size, 0, none⟩ = some (.slice r.k.a kn r.k.c) ∧ W.cell? ⟨w.heap.size, 1, none⟩ = some (.int .i64 r.s) ∧ W.cell? ⟨w.heap.size, 2, none⟩ = some (.bool false) ∧ W.cell? ⟨w.heap.size, 3, none⟩ = some (.slice none 0 0) ∧ W.cell? ⟨w.heap.size, 4, none⟩ = some (.int .i64 r.n)) ∧ (W.cell? ae = some (.slice x.k.a xn x.k.c) ∧ W.cell? ⟨ae.block, ae.off + 1, none⟩ = some (.int .i64 x.s) ∧ W.cell? ⟨ae.block, ae.off + 2, none⟩ = some (.bool x.d) ∧ W.cell? ⟨ae.block, ae.off + 3, none⟩ = some (.slice x.v.a xvn x.v.c))) (by kernel_rfl) ?_
    change wpAnyH _ _ _ _ _ _ _ _ (World.drew _)
    have s0 := HS.out _ (Below.refl _ _).drew
    refine wpAnyH_take (i := 0) (v := .slice (some ae) n c) rfl (by kernel_rfl) (by kernel_rfl) (by kernel_rfl) (fun _ _ _ h => h) (Or.inl ⟨by first | kernel_rfl | rfl, fun _ hS => by go_simp⟩) s0 ?_
    try simp only [Act.put, List.getElem_toArray, List.getElem_cons_zero, List.getElem_cons_succ, List.setIfInBounds_toArray, List.set_cons_zero, List.set_cons_succ]
    refine wpAnyH_take (i := 1) (v := .int .i64 (n : Int)) rfl (by kernel_rfl) (by kernel_rfl) (by kernel_rfl) (fun _ _ _ h => h) (Or.inl ⟨by first | kernel_rfl | rfl, fun _ hS => by go_simp⟩) s0 ?_
    try simp only [Act.put, List.getElem_toArray, List.getElem_cons_zero, List.getElem_cons_succ, List.setIfInBounds_toArray, List.set_cons_zero, List.set_cons_succ]
    refine wpAnyH_take (i := 2) (v := .pointer (some ⟨w.heap.size, 4, none⟩)) rfl (by kernel_rfl) (by kernel_rfl) (by kernel_rfl) (fun _ _ _ h => h) (Or.inl ⟨by first | kernel_rfl | rfl, fun _ hS => by go_simp⟩) s0 ?_
    try simp only [Act.put, List.getElem_toArray, List.getElem_cons_zero, List.getElem_cons_succ, List.setIfInBounds_toArray, List.set_cons_zero, List.set_cons_succ]
    refine wpAnyH_take (i := 3) (v := .int .i64 r.n) rfl (by kernel_rfl) (by kernel_rfl) (by kernel_rfl) (fun _ _ _ h => h) (Or.inl ⟨by first | kernel_rfl | rfl, fun _ hS => by obtain ⟨⟨k0, k1, k2, k3, k4⟩, k5, k6, k7, k8⟩ := hS; go_simp⟩) s0 ?_
    try simp only [Act.put, List.getElem_toArray, List.getElem_cons_zero, List.getElem_cons_succ, List.setIfInBounds_toArray, List.set_cons_zero, List.set_cons_succ]
    refine wpAnyH_take (i := 4) (v := .bool false) rfl (by kernel_rfl) (by kernel_rfl) (by kernel_rfl) (fun _ _ _ h => h) (Or.inl ⟨by first | kernel_rfl | rfl, fun _ hS => by go_simp; exact g1e.out⟩) s0 ?_
    try simp only [Act.put, List.getElem_toArray, List.getElem_cons_zero, List.getElem_cons_succ, List.setIfInBounds_toArray, List.set_cons_zero, List.set_cons_succ]
    refine wpAnyH_take (i := 5) (v := .bool false) rfl (by kernel_rfl) (by kernel_rfl) (by kernel_rfl) (fun _ _ _ h => h) (Or.inl ⟨by first | kernel_rfl | rfl, fun _ hS => by go_simp⟩) s0 ?_
    try simp only [Act.put, List.getElem_toArray, List.getElem_cons_zero, List.getElem_cons_succ, List.setIfInBounds_toArray, List.set_cons_zero, List.set_cons_succ]
    refine wpAnyH_take (i := 6) (v := .slice (some ae) n c) rfl (by kernel_rfl) (by kernel_rfl) (by kernel_rfl) (fun _ _ _ h => h) (Or.inl ⟨by first | kernel_rfl | rfl, fun _ hS => by go_simp⟩) s0 ?_
    try simp only [Act.put, List.getElem_toArray, List.getElem_cons_zero, List.getElem_cons_succ, List.setIfInBounds_toArray, List.set_cons_zero, List.set_cons_succ]
    refine wpAnyH_take (i := 7) (v := .pointer (some ae)) rfl (by kernel_rfl) (by kernel_rfl) (by kernel_rfl) (fun _ _ _ h => h) (Or.inl ⟨by first | kernel_rfl | rfl, fun _ hS => by go_simp⟩) s0 ?_
    try simp only [Act.put, List.getElem_toArray, List.getElem_cons_zero, List.getElem_cons_succ, List.setIfInBounds_toArray, List.set_cons_zero, List.set_cons_succ]
    refine wpAnyH_take (i := 8) (v := .agg #[.slice x.k.a xn x.k.c, .int .i64 x.s, .bool x.d, .slice x.v.a xvn x.v.c]) rfl (by kernel_rfl) (by kernel_rfl) (by kernel_rfl) (fun _ _ _ h => h) (Or.inl ⟨by first | kernel_rfl | rfl, fun _ hS => by obtain ⟨⟨k0, k1, k2, k3, k4⟩, k5, k6, k7, k8⟩ := hS; go_simp⟩) s0 ?_
    try simp only [Act.put, List.getElem_toArray, List.getElem_cons_zero, List.getElem_cons_succ, List.setIfInBounds_toArray, List.set_cons_zero, List.set_cons_succ]
    refine wpAnyH_take (i := 9) (v := .pointer (some ⟨w.heap.size, 0, none⟩)) rfl (by kernel_rfl) (by kernel_rfl) (by kernel_rfl) (fun _ _ _ h => h) (Or.inl ⟨by first | kernel_rfl | rfl, fun _ hS => by go_simp⟩) s0 ?_
    try simp only [Act.put, List.getElem_toArray, List.getElem_cons_zero, List.getElem_cons_succ, List.setIfInBounds_toArray, List.set_cons_zero, List.set_cons_succ]
    refine wpAnyH_take (i := 10) (v := .agg #[.slice r.k.a kn r.k.c, .int .i64 r.s, .bool false, .slice none 0 0]) rfl (by kernel_rfl) (by kernel_rfl) (by kernel_rfl) (fun _ _ _ h => h) (Or.inl ⟨by first | kernel_rfl | rfl, fun _ hS => by obtain ⟨⟨k0, k1, k2, k3, k4⟩, k5, k6, k7, k8⟩ := hS; go_simp⟩) s0 ?_
    try simp only [Act.put, List.getElem_toArray, List.getElem_cons_zero, List.getElem_cons_succ, List.setIfInBounds_toArray, List.set_cons_zero, List.set_cons_succ]
    refine wpAnyH_ready (rs := [11]) (by kernel_rfl) (by simp) ?_
    refine AllReadyH.cons rfl (fun K hK => ?_) AllReadyH.nil
    go_simp
    go_at_call 56
    refine (HO.out _ (BW.out _ (Below.refl _ _).drew)).mono ?_
    rintro e w2 ⟨rfl, hb2⟩
    have CB : Hid (Below w1.heap.size w1 w2) := Lib.hid ((Below.refl _ _).drew.trans hb2)
    clear hb2
    refine hK.out _ _ (HS.out _ CB.out) (fun _ => ?_)
    clear hK K
    try simp only [Act.put, List.getElem_toArray, List.getElem_cons_zero, List.getElem_cons_succ, List.setIfInBounds_toArray, List.set_cons_zero, List.set_cons_succ]
    have s1 := HS.out _ CB.out
    refine wpAnyH_take (i := 12) (v := .bool (!b)) rfl (by kernel_rfl) (by kernel_rfl) (by kernel_rfl) (fun _ _ _ h => h) (Or.inl ⟨by first | kernel_rfl | rfl, fun _ hS => by go_simp; exact HBO.out⟩) s1 ?_
    try simp only [Act.put, List.getElem_toArray, List.getElem_cons_zero, List.getElem_cons_succ, List.setIfInBounds_toArray, List.set_cons_zero, List.set_cons_succ]
    refine wpAnyH_take (i := 13) (v := .bool (!b)) rfl (by kernel_rfl) (by kernel_rfl) (by kernel_rfl) (fun _ _ _ h => h) (Or.inl ⟨by first | kernel_rfl | rfl, fun _ hS => by go_simp⟩) s1 ?_
    try simp only [Act.put, List.getElem_toArray, List.getElem_cons_zero, List.getElem_cons_succ, List.setIfInBounds_toArray, List.set_cons_zero, List.set_cons_succ]
    refine wpAnyH_done (by kernel_rfl) ?_ _
    try simp only [Act.put, List.getElem_toArray, List.getElem_cons_zero, List.getElem_cons_succ, List.setIfInBounds_toArray, List.set_cons_zero, List.set_cons_succ]
    have BW2 : Hid (∀ W, Below w2.heap.size w2 W → Below w1.heap.size w1 W) := Lib.hid (fun W hb => CB.out.trans (hb.mono CB.out.size))
    clear s0 s1 HS HO HBO
    cases b with
    | false =>
      go_wp2_with fail
      go_ret
      exact ⟨rfl, BW.out _ (BW2.out _ (Below.refl _ _))⟩
    | true =>
      obtain ⟨y0, y1, y2, y3⟩ := HYE.out w2 (BW.out _ (BW2.out _ (Below.refl _ _)))
      have tr := (tbl_cells (d := .slice t.da t.L.length t.dc) (g := .slice t.ga t.K.length t.gc) (ra := t.ra) (rn := t.R.length) (rc := t.rc) (mb := t.mb) (cnt := t.cnt) (HT.out w2 (BW.out _ (BW2.out _ (Below.refl _ _)))).blk).1.2.1
      rw [HRA.out, HRN.out] at tr
      have i9' := i9.out.2
      go_upto_region 5 with fail
      obtain ⟨w3, hw3⟩ : ∃ w3, w2.alloc (.cells #[.slice y.k.a yn y.k.c, .int .i64 y.s, .bool y.d, .slice y.v.a yvn y.v.c] 48) = w3 := ⟨_, rfl⟩
      obtain ⟨bb, bc⟩ := box_cells w2 (.slice y.k.a yn y.k.c) (.int .i64 y.s) (.bool y.d) (.slice y.v.a yvn y.v.c)
      rw [hw3] at bb bc
      have BC := Lib.hid bc
      have BW3 : Hid (∀ W, Below w3.heap.size w3 W → Below w.heap.size w W) := Lib.hid (fun W hb => BW.out _ (BW2.out _ (bb.trans (hb.mono bb.size))))
      rw [hw3]
      have tr3 := (tbl_cells (d := .slice t.da t.L.length t.dc) (g := .slice t.ga t.K.length t.gc) (ra := t.ra) (rn := t.R.length) (rc := t.rc) (mb := t.mb) (cnt := t.cnt) (HT.out w3 (BW3.out _ (Below.refl _ _))).blk).1.2.1
      rw [HRA.out, HRN.out] at tr3
      clear hw3 bb bc y0 y1 y2 y3 tr
      by_cases g2 : i + 1 < rn
      · have hq := List.getElem?_eq_getElem (l := t.R) (i := i + 1) (by have := HRN.out; omega)
        generalize t.R[i + 1]'(by have := HRN.out; omega) = q at hq
        have HZ3 : Hid (decide (ordE y.rd q.rd.first < 0) = z2) := Lib.hid (by rw [← HZ2.out, show t.tb.rows[i + 1]? = some q.rd by simp [Tm.tb, hq]])
        obtain ⟨qn, hqn⟩ : ∃ z, q.k.l.length = z := ⟨_, rfl⟩
        have HS6 : Hid (∀ W, Below w3.heap.size w3 W → ((W.cell? ⟨w2.heap.size, 0, none⟩ = some (.slice y.k.a yn y.k.c) ∧ W.cell? ⟨w2.heap.size, 1, none⟩ = some (.int .i64 y.s) ∧ W.cell? ⟨w2.heap.size, 2, none⟩ = some (.bool y.d) ∧ W.cell? ⟨w2.heap.size, 3, none⟩ = some (.slice y.v.a yvn y.v.c)) ∧ (W.cell? ⟨t.b, 1, none⟩ = some (.slice (some ad) rn t.rc) ∧ W.cell? (ad.add ((i + 1) * 7)) = some (.slice q.k.a qn q.k.c) ∧ W.cell? ⟨(ad.add ((i + 1) * 7)).block, (ad.add ((i + 1) * 7)).off + 1, none⟩ = some (.int .i64 q.s) ∧ W.cell? ⟨(ad.add ((i + 1) * 7)).block, (ad.add ((i + 1) * 7)).off + 2, none⟩ = some (.bool false) ∧ W.cell? ⟨(ad.add ((i + 1) * 7)).block, (ad.add ((i + 1) * 7)).off + 3, none⟩ = some (.slice none 0 0)))) := Lib.hid (fun W hb => by
          obtain ⟨c0, c1, c2, c3⟩ := BC.out W hb
          have tt := (tbl_cells (d := .slice t.da t.L.length t.dc) (g := .slice t.ga t.K.length t.gc) (ra := t.ra) (rn := t.R.length) (rc := t.rc) (mb := t.mb) (cnt := t.cnt) (HT.out W (BW3.out _ hb)).blk).1.2.1
          rw [HRA.out, HRN.out] at tt
          obtain ⟨ad', e', q0, q1, q2, q3, -⟩ := row_seven (HT.out W (BW3.out _ hb)).rows hq
          rw [HRA.out] at e'
          injection e' with e'
          subst e'
          rw [hqn] at q0
          exact ⟨⟨c0, c1, c2, c3⟩, tt, q0, q1, q2, q3⟩)
        have HO : Hid (∀ W, Below w3.heap.size w3 W → Calls Tryz.prog 56 #[.agg #[.slice y.k.a yn y.k.c, .int .i64 y.s, .bool y.d, .slice y.v.a yvn y.v.c], .agg #[.slice q.k.a qn q.k.c, .int .i64 q.s, .bool false, .slice none 0 0]] W fun e w' => e = .returned (.int .i64 (ordE y.rd q.rd.first)) ∧ Below W.heap.size W w') := Lib.hid (fun W hb => by
          have := order_any y q.en W (HYI.out W (BW3.out _ hb)) (HI.out W (BW3.out _ hb) (i + 1) q hq)
          rw [En.val_eq, En.val_eq, HYN.out.1, HYN.out.2] at this
          simp only [Rm.en, hqn, List.length_nil] at this
          exact this)
        have j5 : (i : Int) + 1 < rn := by omega
        obtain ⟨j7, j8, j9, j10⟩ := succ_facts g2 i9'
        obtain ⟨od2, hod2⟩ : ∃ z, ordE y.rd q.rd.first = z := ⟨_, rfl⟩
        rw [hod2] at HO HZ3
        clear hq hqn hod2
        have CC := Lib.hid (Below.refl w3.heap.size w3)
        go_upto_region 6 with fail
        go_region_held3 (fun W => (W.cell? ⟨w2.heap.size, 0, none⟩ = some (.slice y.k.a yn y.k.c) ∧ W.cell? ⟨w2.heap.size, 1, none⟩ = some (.int .i64 y.s) ∧ W.cell? ⟨w2.heap.size, 2, none⟩ = some (.bool y.d) ∧ W.cell? ⟨w2.heap.size, 3, none⟩ = some (.slice y.v.a yvn y.v.c)) ∧ (W.cell? ⟨t.b, 1, none⟩ = some (.slice (some ad) rn t.rc) ∧ W.cell? (ad.add ((i + 1) * 7)) = some (.slice q.k.a qn q.k.c) ∧ W.cell? ⟨(ad.add ((i + 1) * 7)).block, (ad.add ((i + 1) * 7)).off + 1, none⟩ = some (.int .i64 q.s) ∧ W.cell? ⟨(ad.add ((i + 1) * 7)).block, (ad.add ((i + 1) * 7)).off + 2, none⟩ = some (.bool false) ∧ W.cell? ⟨(ad.add ((i + 1) * 7)).block, (ad.add ((i + 1) * 7)).off + 3, none⟩ = some (.slice none 0 0))) (first | exact HS6.out _ CC.out | exact HS6.out _ (by repeat (first | exact Below.refl _ _ | refine Below.drew ?_ | refine below_al ?_ _)) | go_keep) (first | (go_at_call 56; refine (HO.out _ (by repeat (first | exact Below.refl _ _ | refine Below.drew ?_ | refine below_al ?_ _))).mono ?_; rintro e w4 ⟨rfl, b4⟩; replace CC := Lib.hid (below_then (by repeat (first | exact Below.refl _ _ | exact CC.out | refine Below.drew ?_ | refine below_al ?_ _) : Below w3.heap.size w3 _) b4); clear b4))
        go_wp2_with fail
        go_ret
        exact ⟨by rw [← HZ3.out]; simp, BW3.out _ (by repeat (first | exact Below.refl _ _ | exact CC.out | refine Below.drew ?_ | refine below_al ?_ _))⟩
      · have HZ3 : Hid (decide (y.k.l = t.K) = z2) := Lib.hid (by rw [← HZ2.out, show t.tb.rows[i + 1]? = none by simp only [Tm.tb, List.getElem?_map, Option.map_eq_none_iff]; exact List.getElem?_eq_none (by have := HRN.out; omega)])
        obtain ⟨gn, hgn⟩ : ∃ z, t.K.length = z := ⟨_, rfl⟩
        have HS7 : Hid (∀ W, Below w3.heap.size w3 W → (W.cell? ⟨w2.heap.size, 0, none⟩ = some (.slice y.k.a yn y.k.c) ∧ W.cell? ⟨t.b, 3, none⟩ = some (.slice t.ga gn t.gc))) := Lib.hid (fun W hb => by
          obtain ⟨c0, -⟩ := BC.out W hb
          have tt := (tbl_cells (d := .slice t.da t.L.length t.dc) (g := .slice t.ga t.K.length t.gc) (ra := t.ra) (rn := t.R.length) (rc := t.rc) (mb := t.mb) (cnt := t.cnt) (HT.out W (BW3.out _ hb)).blk).1.2.2.2.1
          rw [hgn] at tt
          exact ⟨c0, tt⟩)
        have HQ : Hid (∀ W, Below w3.heap.size w3 W → Calls Tryz.prog 45 #[.slice y.k.a yn y.k.c, .slice t.ga gn t.gc] W fun e w' => e = .returned (.bool z2) ∧ w' = W) := Lib.hid (fun W hb => by
          have h1 := (HYI.out W (BW3.out _ hb)).1
          have h2 := (HT.out W (BW3.out _ hb)).great
          rw [HYN.out.1] at h1
          rw [hgn] at h2
          have := equal_any _ _ _ _ _ _ _ _ W h1 h2
          rwa [HZ3.out] at this)
        have j5 : ¬ (i : Int) + 1 < rn := by omega
        clear hgn
        go_upto_region 7 with fail
        go_region_held3 (fun W => W.cell? ⟨w2.heap.size, 0, none⟩ = some (.slice y.k.a yn y.k.c) ∧ W.cell? ⟨t.b, 3, none⟩ = some (.slice t.ga gn t.gc)) (first | exact HS7.out _ (by repeat (first | exact Below.refl _ _ | refine Below.drew ?_ | refine below_al ?_ _)) | go_keep) (first | (go_at_call 45; refine (HQ.out _ (by repeat (first | exact Below.refl _ _ | refine Below.drew ?_ | refine below_al ?_ _))).mono ?_; rintro e w4 ⟨rfl, rfl⟩))
        go_wp2_with fail
        go_ret
        exact ⟨rfl, BW3.out _ (by repeat (first | exact Below.refl _ _ | refine Below.drew ?_ | refine below_al ?_ _))⟩
  · have hF : fitsP t.tb i r.rd (ers l) = false := by
      unfold fitsP
      rw [show decide (((ers l).length : Int) = r.rd.count) = false by rw [ers_len, hn]; exact decide_eq_false g1]
      rfl
    rw [hF]
    have g1' : ((n : Int) != r.n) = true := by simpa using g1
    clear hF g1 HI HE
    go_enter Tryz.func94, Tryz.ntmps94
    go_upto_region 2 with fail
    rw [HW1.out]
    have c4 := (HB.out w1 (Below.refl _ _)).2.2.2.2
    go_quiet (fail)
    go_wp2_with fail
    go_ret
    exact ⟨rfl, BW.out _ (by repeat (first | exact Below.refl _ _ | exact below_drewN (Below.refl _ _) _ | refine Below.drew ?_ | refine below_al ?_ _))⟩
end Go.Proofs.YtmgggddnfeojmaaGreat
namespace Go.Proofs.YtmgggddnfeojmaaGreat
open Go.RowKit
/-- A block more that was read. -/
theorem Cached.snoc {W : World} {t : Tm} {es : List MapEntry} {ck i : Nat} {r : Rm} {A : Option Addr} {l : List En} {c : Nat} (h : Cached W t es) (ho : RowsOk t.L.length t.R) (hB : Byt t.L) (hr : t.R[i]? = some r) (hb : blockP t.tb i = some (ers l)) (h1 : Lies W A (evals l)) (h2 : EIns W l) (h3 : ∀ q ∈ l, EFit q) (h4 : l.length ≤ c ∧ (c : Int) ≤ 9223372036854775807) : Cached W t (es ++ [⟨plV r.fro r.tu, .slice A l.length c, ck⟩]) := fun e he => by
  rcases List.mem_append.1 he with he | he
  · exact h e he
  · rw [List.mem_singleton] at he
    subst he
    refine ⟨r.fro, r.tu, A, l, c, rfl, rfl, h4, h1, h2, h3, fun j s hs e1 e2 => ?_⟩
    rw [← place_one ho hB hr hs e1.symm e2.symm hb]
    exact hb
end Go.Proofs.YtmgggddnfeojmaaGreat
namespace Go.Proofs.YtmgggddnfeojmaaGreat
open Go.RowKit
/-- How a round's body must end that leaves by J. -/
def HaltsJ (h : Nat) (W : World) (J : Code) (post : World → Prop) : Exit → Act → World → Prop
  | .ret, _, W' => J = .ret ∧ Two h W W' ∧ post W'
  | .exit k, _, W' => J = .exit k ∧ Two h W W' ∧ post W'
  | _, _, _ => False
end Go.Proofs.YtmgggddnfeojmaaGreat
namespace Go.Proofs.YtmgggddnfeojmaaGreat
open Go.RowKit
theorem half_facts {i j m : Nat} (h : i < j) (hj : j ≤ 2305843009213693952) (hm : (i + j) / 2 = m) : wrap64 ((i : Int) + j) = (i : Int) + j ∧ IntKind.u64.wrap ((i : Int) + j) = (i : Int) + j ∧ wrap64 (((i : Int) + j) / 2) = m ∧ wrap64 ((m : Int) + 1) = (m : Int) + 1 ∧ m < j ∧ i ≤ m := by
  refine ⟨?_, ?_, ?_, ?_, by omega, by omega⟩
  · unfold wrap64; omega
  · rw [IntKind.wrap_u64]; omega
  · have : ((i : Int) + j) / 2 = m := by omega
    rw [this]
    unfold wrap64; omega
  · unfold wrap64; omega
set_option maxRecDepth 100000 in
set_option maxHeartbeats 4000000 in
theorem search_any (n c : Nat) (gf : Nat) (lb : Array Value) (w : World) (hc : c ≤ n) (hn : n ≤ 2305843009213693952) (eg : ∀ args w, (callFunc gf args).run Tryz.prog w = .ok (.enter gf args) w)
    (hf : ∀ m, m < n → ∀ W, Below w.heap.size w W → Calls Tryz.prog gf (#[.int .i64 (m : Int)] ++ lb) W fun e w' => e = .returned (.bool (decide (c ≤ m))) ∧ Below W.heap.size W w') :
    Calls Tryz.prog 71 #[.int .i64 n, .func (.func gf) #[] lb] w fun e w' => e = .returned (.int .i64 c) ∧ Below w.heap.size w w' := by
  have HF := Lib.hid hf
  have HN := Lib.hid hn
  clear hf hn
  go_enter Tryz.func71, Tryz.ntmps71
  go_wp2_with fail
  go_loopw [5, 6] (fun t5 t6 wr => ∃ i j : Nat, t5 = .int .i64 i ∧ t6 = .int .i64 j ∧ i ≤ c ∧ c ≤ j ∧ j ≤ n ∧ Hid (Below w.heap.size w wr)) (fun t5 t6 _ => (intOf t6).toNat - (intOf t5).toNat)
  case atStart => exact ⟨0, n, rfl, rfl, by omega, hc, Nat.le_refl _, Lib.hid (Below.refl _ _)⟩
  case round =>
    obtain ⟨i, j, rfl, rfl, h1, h2, h3, HB⟩ := hrel
    by_cases hlt : i < j
    · obtain ⟨m, hm⟩ : ∃ m, (i + j) / 2 = m := ⟨_, rfl⟩
      obtain ⟨e1, e2, e3, e4, e5, e6⟩ := half_facts hlt (Nat.le_trans h3 HN.out) hm
      have HM := Lib.hid (HF.out m (by omega) _ HB.out)
      have j0 : (i : Int) < j := by omega
      clear hm
      by_cases hcm : c ≤ m
      · have hd : decide (c ≤ m) = true := by simpa using hcm
        rw [hd] at HM
        go_wp2_with fail
        refine HM.out.mono ?_
        rintro e w1 ⟨rfl, b1⟩
        have B1 := Lib.hid (HB.out.trans (b1.mono HB.out.size))
        clear b1
        go_wp2_with fail
        try simp only [e3, e4]
        clear e1 e2 e3 e4
        go_roundw
        case rel => exact ⟨i, m, rfl, rfl, h1, hcm, by omega, B1⟩
        case measure => simp [intOf]; omega
      · have hd : decide (c ≤ m) = false := by simpa using hcm
        rw [hd] at HM
        go_wp2_with fail
        refine HM.out.mono ?_
        rintro e w1 ⟨rfl, b1⟩
        have B1 := Lib.hid (HB.out.trans (b1.mono HB.out.size))
        clear b1
        go_wp2_with fail
        try simp only [e3, e4]
        clear e1 e2 e3 e4
        go_roundw
        case rel => exact ⟨m + 1, j, by simp, rfl, by omega, h2, h3, B1⟩
        case measure => simp [intOf]; omega
    · obtain rfl : i = j := by omega
      obtain rfl : i = c := by omega
      have j0 : ¬ (i : Int) < i := by omega
      go_wp2_with fail
      go_ret
      exact ⟨rfl, HB.out⟩
end Go.Proofs.YtmgggddnfeojmaaGreat
namespace Go.Proofs.YtmgggddnfeojmaaGreat
open Go.RowKit
/-- An entry in a box of its own. -/
def EBox (w : World) (b : Nat) (x : En) : Prop := w.cell? ⟨b, 0, none⟩ = some (.slice x.k.a x.k.l.length x.k.c) ∧ w.cell? ⟨b, 1, none⟩ = some (.int .i64 x.s) ∧ w.cell? ⟨b, 2, none⟩ = some (.bool x.d) ∧ w.cell? ⟨b, 3, none⟩ = some (.slice x.v.a x.v.l.length x.v.c)
theorem cell_below {w w' : World} {a : Addr} {v : Value} (h : w.cell? a = some v) (hb : Below w.heap.size w w') : w'.cell? a = some v := by
  have hlt : a.block < w.heap.size := by
    rcases Nat.lt_or_ge a.block w.heap.size with g | g
    · exact g
    · have : w.heap[a.block]? = none := Array.getElem?_eq_none g
      simp [World.cell?, this] at h
  unfold World.cell? at h ⊢
  rw [hb.block _ hlt]
  exact h
theorem EBox.kept {w w' : World} {b : Nat} {x : En} (h : EBox w b x) (hb : Below w.heap.size w w') : EBox w' b x := ⟨cell_below h.1 hb, cell_below h.2.1 hb, cell_below h.2.2.1 hb, cell_below h.2.2.2 hb⟩
theorem EBox.tw {w w' : World} {b mb : Nat} {x : En} (h : EBox w b x) (ht : Tw mb w w') (hm : MapAt w mb) : EBox w' b x := ⟨ht.cell hm h.1, ht.cell hm h.2.1, ht.cell hm h.2.2.1, ht.cell hm h.2.2.2⟩
set_option maxRecDepth 100000 in
set_option maxHeartbeats 8000000 in
theorem seekRow_any (t : Tm) (x : En) (m tb eb : Nat) (r : Rm) (w : World) (h : TabC w t) (hr : t.R[m]? = some r) (ht : w.cell? ⟨tb, 0, none⟩ = some (.pointer (some ⟨t.b, 0, none⟩))) (he : EBox w eb x) (hx : EIn w x) :
    Calls Tryz.prog 72 #[.int .i64 m, .pointer (some ⟨tb, 0, none⟩), .pointer (some ⟨eb, 0, none⟩)] w fun e w' => e = .returned (.bool (decide (0 < ordE r.rd.first x.rd))) ∧ Below w.heap.size w w' := by
  obtain ⟨ad, hra, -⟩ := row_seven h.rows hr
  obtain ⟨rn, hrn⟩ : ∃ q, t.R.length = q := ⟨_, rfl⟩
  obtain ⟨kn, hkn⟩ : ∃ q, r.k.l.length = q := ⟨_, rfl⟩
  obtain ⟨xn, hxn⟩ : ∃ q, x.k.l.length = q := ⟨_, rfl⟩
  obtain ⟨xvn, hxvn⟩ : ∃ q, x.v.l.length = q := ⟨_, rfl⟩
  have HS : Hid (∀ W, Below w.heap.size w W → ((W.cell? ⟨tb, 0, none⟩ = some (.pointer (some ⟨t.b, 0, none⟩)) ∧ W.cell? ⟨t.b, 1, none⟩ = some (.slice (some ad) rn t.rc)) ∧ (W.cell? (ad.add (m * 7)) = some (.slice r.k.a kn r.k.c) ∧ W.cell? ⟨(ad.add (m * 7)).block, (ad.add (m * 7)).off + 1, none⟩ = some (.int .i64 r.s) ∧ W.cell? ⟨(ad.add (m * 7)).block, (ad.add (m * 7)).off + 2, none⟩ = some (.bool false) ∧ W.cell? ⟨(ad.add (m * 7)).block, (ad.add (m * 7)).off + 3, none⟩ = some (.slice none 0 0)) ∧ (W.cell? ⟨eb, 0, none⟩ = some (.slice x.k.a xn x.k.c) ∧ W.cell? ⟨eb, 1, none⟩ = some (.int .i64 x.s) ∧ W.cell? ⟨eb, 2, none⟩ = some (.bool x.d) ∧ W.cell? ⟨eb, 3, none⟩ = some (.slice x.v.a xvn x.v.c)))) := Lib.hid (fun W hb => by
    have t1 := (tbl_cells (d := .slice t.da t.L.length t.dc) (g := .slice t.ga t.K.length t.gc) (ra := t.ra) (rn := t.R.length) (rc := t.rc) (mb := t.mb) (cnt := t.cnt) (h.kept hb).blk).1.2.1
    obtain ⟨ad', e', r0, r1, r2, r3, -⟩ := row_seven (h.kept hb).rows hr
    rw [hra] at e'
    injection e' with e'
    subst e'
    rw [hra, hrn] at t1
    rw [hkn] at r0
    obtain ⟨x0, x1, x2, x3⟩ := he.kept hb
    rw [hxn] at x0
    rw [hxvn] at x3
    exact ⟨⟨cell_below ht hb, t1⟩, ⟨r0, r1, r2, r3⟩, x0, x1, x2, x3⟩)
  have HO : Hid (∀ W, Below w.heap.size w W → Calls Tryz.prog 56 #[.agg #[.slice r.k.a kn r.k.c, .int .i64 r.s, .bool false, .slice none 0 0], .agg #[.slice x.k.a xn x.k.c, .int .i64 x.s, .bool x.d, .slice x.v.a xvn x.v.c]] W fun e w' => e = .returned (.int .i64 (ordE r.rd.first x.rd)) ∧ Below W.heap.size W w') := Lib.hid (fun W hb => by
    have := order_any r.en x W (Rm.en_in ((h.kept hb).keys r (List.mem_of_getElem? hr))) (hx.kept hb)
    rw [En.val_eq, En.val_eq, hxn, hxvn] at this
    simp only [Rm.en, hkn, List.length_nil] at this
    exact this)
  have i0 : (m : Int) < rn := by have := (List.getElem?_eq_some_iff.1 hr).1; omega
  have i1 : (0 : Int) ≤ m := by omega
  obtain ⟨od, hod⟩ : ∃ q, ordE r.rd.first x.rd = q := ⟨_, rfl⟩
  rw [hod] at HO ⊢
  have CB := Lib.hid (Below.refl w.heap.size w)
  clear hod hra hrn hkn hxn hxvn h hr ht he hx
  go_enter Tryz.func72, Tryz.ntmps72
  go_upto_region 1 with fail
  go_region_held3 (fun W => (W.cell? ⟨tb, 0, none⟩ = some (.pointer (some ⟨t.b, 0, none⟩)) ∧ W.cell? ⟨t.b, 1, none⟩ = some (.slice (some ad) rn t.rc)) ∧ (W.cell? (ad.add (m * 7)) = some (.slice r.k.a kn r.k.c) ∧ W.cell? ⟨(ad.add (m * 7)).block, (ad.add (m * 7)).off + 1, none⟩ = some (.int .i64 r.s) ∧ W.cell? ⟨(ad.add (m * 7)).block, (ad.add (m * 7)).off + 2, none⟩ = some (.bool false) ∧ W.cell? ⟨(ad.add (m * 7)).block, (ad.add (m * 7)).off + 3, none⟩ = some (.slice none 0 0)) ∧ (W.cell? ⟨eb, 0, none⟩ = some (.slice x.k.a xn x.k.c) ∧ W.cell? ⟨eb, 1, none⟩ = some (.int .i64 x.s) ∧ W.cell? ⟨eb, 2, none⟩ = some (.bool x.d) ∧ W.cell? ⟨eb, 3, none⟩ = some (.slice x.v.a xvn x.v.c))) (first | exact HS.out _ CB.out | exact HS.out _ (by repeat (first | exact Below.refl _ _ | exact CB.out | refine Below.drew ?_ | refine below_al ?_ _)) | go_keep) (first | (go_at_call 56; refine (HO.out _ (by repeat (first | exact Below.refl _ _ | exact CB.out | refine Below.drew ?_ | refine below_al ?_ _))).mono ?_; rintro e w4 ⟨rfl, b4⟩; replace CB := Lib.hid (below_then (by repeat (first | exact Below.refl _ _ | exact CB.out | refine Below.drew ?_ | refine below_al ?_ _) : Below w.heap.size w _) b4); clear b4))
  go_wp2_with fail
  go_ret
  exact ⟨by simp, (by repeat (first | exact Below.refl _ _ | exact CB.out | refine Below.drew ?_ | refine below_al ?_ _))⟩
set_option maxRecDepth 100000 in
set_option maxHeartbeats 8000000 in
theorem seekEntry_any (A : Option Addr) (l : List En) (n c : Nat) (x y : En) (m tb eb : Nat) (w : World) (hn : l.length = n) (h : Lies w A (evals l)) (hi : EIns w l) (hy : l[m]? = some y) (ht : w.cell? ⟨tb, 0, none⟩ = some (.slice A n c)) (he : EBox w eb x) (hx : EIn w x) :
    Calls Tryz.prog 74 #[.int .i64 m, .pointer (some ⟨tb, 0, none⟩), .pointer (some ⟨eb, 0, none⟩)] w fun e w' => e = .returned (.bool (decide (0 ≤ ordE y.rd x.rd))) ∧ Below w.heap.size w w' := by
  obtain ⟨ad, rfl, -⟩ := lies_entry h hy
  obtain ⟨kn, hkn⟩ : ∃ q, y.k.l.length = q := ⟨_, rfl⟩
  obtain ⟨kvn, hkvn⟩ : ∃ q, y.v.l.length = q := ⟨_, rfl⟩
  obtain ⟨xn, hxn⟩ : ∃ q, x.k.l.length = q := ⟨_, rfl⟩
  obtain ⟨xvn, hxvn⟩ : ∃ q, x.v.l.length = q := ⟨_, rfl⟩
  have HS : Hid (∀ W, Below w.heap.size w W → ((W.cell? ⟨tb, 0, none⟩ = some (.slice (some ad) n c)) ∧ (W.cell? (ad.add (m * 4)) = some (.slice y.k.a kn y.k.c) ∧ W.cell? ⟨(ad.add (m * 4)).block, (ad.add (m * 4)).off + 1, none⟩ = some (.int .i64 y.s) ∧ W.cell? ⟨(ad.add (m * 4)).block, (ad.add (m * 4)).off + 2, none⟩ = some (.bool y.d) ∧ W.cell? ⟨(ad.add (m * 4)).block, (ad.add (m * 4)).off + 3, none⟩ = some (.slice y.v.a kvn y.v.c)) ∧ (W.cell? ⟨eb, 0, none⟩ = some (.slice x.k.a xn x.k.c) ∧ W.cell? ⟨eb, 1, none⟩ = some (.int .i64 x.s) ∧ W.cell? ⟨eb, 2, none⟩ = some (.bool x.d) ∧ W.cell? ⟨eb, 3, none⟩ = some (.slice x.v.a xvn x.v.c)))) := Lib.hid (fun W hb => by
    have t1 := lies_entry_at (h.kept hb) hy
    unfold AtE at t1
    rw [hkn, hkvn] at t1
    obtain ⟨x0, x1, x2, x3⟩ := he.kept hb
    rw [hxn] at x0
    rw [hxvn] at x3
    exact ⟨cell_below ht hb, t1, x0, x1, x2, x3⟩)
  have HO : Hid (∀ W, Below w.heap.size w W → Calls Tryz.prog 56 #[.agg #[.slice y.k.a kn y.k.c, .int .i64 y.s, .bool y.d, .slice y.v.a kvn y.v.c], .agg #[.slice x.k.a xn x.k.c, .int .i64 x.s, .bool x.d, .slice x.v.a xvn x.v.c]] W fun e w' => e = .returned (.int .i64 (ordE y.rd x.rd)) ∧ Below W.heap.size W w') := Lib.hid (fun W hb => by
    have := order_any y x W ((hi.kept hb) y (List.mem_of_getElem? hy)) (hx.kept hb)
    rw [En.val_eq, En.val_eq, hxn, hxvn, hkn, hkvn] at this
    exact this)
  have i0 : (m : Int) < n := by have := (List.getElem?_eq_some_iff.1 hy).1; omega
  have i1 : (0 : Int) ≤ m := by omega
  obtain ⟨od, hod⟩ : ∃ q, ordE y.rd x.rd = q := ⟨_, rfl⟩
  rw [hod] at HO ⊢
  have CB := Lib.hid (Below.refl w.heap.size w)
  clear hod hkn hkvn hxn hxvn h hi hy ht he hx hn
  go_enter Tryz.func74, Tryz.ntmps74
  go_upto_region 1 with fail
  go_region_held3 (fun W => (W.cell? ⟨tb, 0, none⟩ = some (.slice (some ad) n c)) ∧ (W.cell? (ad.add (m * 4)) = some (.slice y.k.a kn y.k.c) ∧ W.cell? ⟨(ad.add (m * 4)).block, (ad.add (m * 4)).off + 1, none⟩ = some (.int .i64 y.s) ∧ W.cell? ⟨(ad.add (m * 4)).block, (ad.add (m * 4)).off + 2, none⟩ = some (.bool y.d) ∧ W.cell? ⟨(ad.add (m * 4)).block, (ad.add (m * 4)).off + 3, none⟩ = some (.slice y.v.a kvn y.v.c)) ∧ (W.cell? ⟨eb, 0, none⟩ = some (.slice x.k.a xn x.k.c) ∧ W.cell? ⟨eb, 1, none⟩ = some (.int .i64 x.s) ∧ W.cell? ⟨eb, 2, none⟩ = some (.bool x.d) ∧ W.cell? ⟨eb, 3, none⟩ = some (.slice x.v.a xvn x.v.c))) (first | exact HS.out _ CB.out | exact HS.out _ (by repeat (first | exact Below.refl _ _ | exact CB.out | refine Below.drew ?_ | refine below_al ?_ _)) | go_keep) (first | (go_at_call 56; refine (HO.out _ (by repeat (first | exact Below.refl _ _ | exact CB.out | refine Below.drew ?_ | refine below_al ?_ _))).mono ?_; rintro e w4 ⟨rfl, b4⟩; replace CB := Lib.hid (below_then (by repeat (first | exact Below.refl _ _ | exact CB.out | refine Below.drew ?_ | refine below_al ?_ _) : Below w.heap.size w _) b4); clear b4))
  go_wp2_with fail
  go_ret
  exact ⟨by simp, (by repeat (first | exact Below.refl _ _ | exact CB.out | refine Below.drew ?_ | refine below_al ?_ _))⟩
end Go.Proofs.YtmgggddnfeojmaaGreat
namespace Go.Proofs.YtmgggddnfeojmaaGreat
open Go.RowKit
/-- All stands that is in none of the blocks S, nor in the map. -/
def AgX (S : Nat → Prop) (mb : Nat) (W V : World) : Prop := ∀ g o, W.heap[g]? = some o → ¬ S g → g ≠ mb → V.heap[g]? = some o
theorem AgX.refl (S : Nat → Prop) (mb : Nat) (W : World) : AgX S mb W W := fun _ _ h _ _ => h
theorem AgX.trans {S : Nat → Prop} {mb : Nat} {A B C : World} (h : AgX S mb A B) (k : AgX S mb B C) : AgX S mb A C := fun g o e hs hm => k g o (h g o e hs hm) hs hm
theorem AgX.of_below {S : Nat → Prop} {mb : Nat} {W V : World} (h : Below W.heap.size W V) : AgX S mb W V := fun _ _ e _ _ => obj_kept e h (Nat.le_refl _)
theorem AgX.of_tw {S : Nat → Prop} {mb : Nat} {W V : World} (h : Tw mb W V) : AgX S mb W V := fun _ _ e _ hm => h.obj e hm
theorem AgX.less {S S' : Nat → Prop} {mb : Nat} {W V : World} (h : AgX S' mb W V) (hs : ∀ g, g < W.heap.size → S' g → S g) : AgX S mb W V := fun g o e k hm => h g o e (fun q => k (hs g (Array.getElem?_eq_some_iff.1 e).1 q)) hm
theorem cell_block {w : World} {a : Addr} {v : Value} (hc : w.cell? a = some v) : ∃ o, w.heap[a.block]? = some o ∧ ∀ es ck, o ≠ .map es ck := by
  cases ho : w.heap[a.block]? with
  | none => simp [World.cell?, ho] at hc
  | some o =>
    refine ⟨o, rfl, fun es ck e => ?_⟩
    subst e
    simp [World.cell?, ho] at hc
theorem cell_agx {S : Nat → Prop} {mb : Nat} {w v : World} {a : Addr} {x : Value} (hc : w.cell? a = some x) (h : AgX S mb w v) (hs : ¬ S a.block) (hm : MapAt w mb) : v.cell? a = some x := by
  obtain ⟨o, h1, h2⟩ := cell_block hc
  obtain ⟨es, ck, hm⟩ := hm
  have hne : a.block ≠ mb := fun e => by
    rw [e, hm] at h1
    injection h1 with h1
    exact h2 es ck h1.symm
  have h3 := h _ _ h1 hs hne
  unfold World.cell? at hc ⊢
  rw [h1] at hc
  rw [h3]
  exact hc
theorem cell_agx_old {S : Nat → Prop} {mb : Nat} {w v : World} {a : Addr} {x : Value} (hc : w.cell? a = some x) (h : AgX S mb w v) (hs : ∀ g, g < w.heap.size → ¬ S g) (hm : MapAt w mb) : v.cell? a = some x := by
  obtain ⟨o, h1, -⟩ := cell_block hc
  exact cell_agx hc h (hs _ (Array.getElem?_eq_some_iff.1 h1).1) hm
theorem Lies.agx {S : Nat → Prop} {mb : Nat} {w v : World} {A : Option Addr} {xs : List Value} (h : Lies w A xs) (k : AgX S mb w v) (hs : ∀ g, g < w.heap.size → ¬ S g) (hm : MapAt w mb) : Lies v A xs := h.imp id (fun ⟨ad, e, q⟩ => ⟨ad, e, fun j u hu => cell_agx_old (q j u hu) k hs hm⟩)
theorem In.agx {S : Nat → Prop} {mb : Nat} {w v : World} {A : Option Addr} {L : List Int} {n c : Nat} (h : In w A L n c) (k : AgX S mb w v) (hs : ∀ g, g < w.heap.size → ¬ S g) (hm : MapAt w mb) : In v A L n c := ⟨h.len, h.cap, h.top, h.bys.imp id (fun ⟨ad, e, q⟩ => ⟨ad, e, fun j u hu => cell_agx_old (q j u hu) k hs hm⟩), h.byt⟩
theorem TabC.agx {S : Nat → Prop} {w v : World} {t : Tm} (h : TabC w t) (k : AgX S t.mb w v) (hs : ∀ g, g < w.heap.size → ¬ S g) (hm : MapAt w t.mb) : TabC v t := by
  have hlt : t.b < w.heap.size := (Array.getElem?_eq_some_iff.1 h.blk).1
  refine ⟨k _ _ h.blk (hs _ hlt) (fun e => ?_), h.data.agx k hs hm, h.rows.agx k hs hm, h.rcap, fun r hr => (h.keys r hr).agx k hs hm, h.great.agx k hs hm, h.ok, h.ord⟩
  obtain ⟨es, ck, hm⟩ := hm
  rw [← e, h.blk] at hm
  injection hm with hm
  cases hm
theorem own_agx {S : Nat → Prop} {mb B : Nat} {w v : World} {e : TypeId} {size : Nat} {A : Option Addr} {n c m : Nat} {xs : List Value} (h : w.ownsRow B e size (.slice A n c) m xs) (k : AgX S mb w v) (hs : ∀ g, S g → g < B) (hm : mb < B) : v.ownsRow B e size (.slice A n c) m xs := by
  refine ⟨h.1, ?_⟩
  rcases h.2 with hn | ⟨g, cap, cur, e1, h1, h2, h3⟩
  · exact .inl hn
  · exact .inr ⟨g, cap, cur, e1, h1, k _ _ h2 (fun q => by have := hs g q; omega) (by omega), h3⟩
theorem row_agx {S : Nat → Prop} {mb B c : Nat} {w v : World} {A : Option Addr} {L : List Int} (h : Row w B A c L) (k : AgX S mb w v) (hs : ∀ g, S g → g < B) (hm : mb < B) : Row v B A c L := own_agx h k hs hm
/-- The blocks that were read, none of which hangs on the blocks S. -/
def CachedS (S : Nat → Prop) (W : World) (t : Tm) (es : List MapEntry) : Prop := ∀ e ∈ es, ∃ f u A l c, e.key = .agg #[.int .i64 f, .int .i64 u] ∧ e.val = .slice A l.length c ∧ (l.length ≤ c ∧ (c : Int) ≤ 9223372036854775807) ∧ (∀ V, AgX S t.mb W V → Lies V A (evals l) ∧ EIns V l) ∧ (∀ q ∈ l, EFit q) ∧ ∀ i r, t.R[i]? = some r → r.fro = f → r.tu = u → blockP t.tb i = some (ers l)
theorem CachedS.c {S : Nat → Prop} {W : World} {t : Tm} {es : List MapEntry} (h : CachedS S W t es) : Cached W t es := fun e he => by
  obtain ⟨f, u, A, l, c, e1, e2, e3, e4, e5, e6⟩ := h e he
  exact ⟨f, u, A, l, c, e1, e2, e3, (e4 W (AgX.refl _ _ _)).1, (e4 W (AgX.refl _ _ _)).2, e5, e6⟩
theorem CachedS.less {S S' : Nat → Prop} {W V : World} {t : Tm} {es : List MapEntry} (h : CachedS S W t es) (k : ∀ U, AgX S' t.mb V U → AgX S t.mb W U) : CachedS S' V t es := fun e he => by
  obtain ⟨f, u, A, l, c, e1, e2, e3, e4, e5, e6⟩ := h e he
  exact ⟨f, u, A, l, c, e1, e2, e3, fun U hU => e4 U (k U hU), e5, e6⟩
theorem Cached.s {S : Nat → Prop} {W : World} {t : Tm} {es : List MapEntry} (h : Cached W t es) (hs : ∀ g, g < W.heap.size → ¬ S g) (hm : MapAt W t.mb) : CachedS S W t es := fun e he => by
  obtain ⟨f, u, A, l, c, e1, e2, e3, e4, e5, e6, e7⟩ := h e he
  exact ⟨f, u, A, l, c, e1, e2, e3, fun V k => ⟨e4.agx k hs hm, fun q hq => ⟨(e5 q hq).1.agx k hs hm, (e5 q hq).2.agx k hs hm⟩⟩, e6, e7⟩
theorem CachedS.snoc {S : Nat → Prop} {W : World} {t : Tm} {es : List MapEntry} {ck i : Nat} {r : Rm} {A : Option Addr} {l : List En} {c : Nat} (h : CachedS S W t es) (ho : RowsOk t.L.length t.R) (hB : Byt t.L) (hr : t.R[i]? = some r) (hb : blockP t.tb i = some (ers l)) (h1 : ∀ V, AgX S t.mb W V → Lies V A (evals l) ∧ EIns V l) (h3 : ∀ q ∈ l, EFit q) (h4 : l.length ≤ c ∧ (c : Int) ≤ 9223372036854775807) : CachedS S W t (es ++ [⟨plV r.fro r.tu, .slice A l.length c, ck⟩]) := fun e he => by
  rcases List.mem_append.1 he with he | he
  · exact h e he
  · rw [List.mem_singleton] at he
    subst he
    refine ⟨r.fro, r.tu, A, l, c, rfl, rfl, h4, h1, h3, fun j s hs e1 e2 => ?_⟩
    rw [← place_one ho hB hr hs e1.symm e2.symm hb]
    exact hb
/-- A table that hangs on none of the blocks S. -/
def TabW (S : Nat → Prop) (W : World) (t : Tm) : Prop := (∀ V, AgX S t.mb W V → TabC V t) ∧ ∃ es ck, W.heap[t.mb]? = some (.map es.toArray ck) ∧ CachedS S W t es
theorem TabW.at_ {S : Nat → Prop} {W : World} {t : Tm} (h : TabW S W t) : TabAt W t := by
  obtain ⟨h1, es, ck, h2, h3⟩ := h
  exact (h1 W (AgX.refl _ _ _)).at_ ⟨es, ck, h2, h3.c⟩
theorem TabAt.w {S : Nat → Prop} {W : World} {t : Tm} (h : TabAt W t) (hs : ∀ g, g < W.heap.size → ¬ S g) : TabW S W t := by
  obtain ⟨es, ck, h1, h2⟩ := h.map
  exact ⟨fun V k => h.c.agx k hs h.mapAt, es, ck, h1, h2.s hs h.mapAt⟩
theorem TabW.kept {S : Nat → Prop} {W V : World} {t : Tm} (h : TabW S W t) (hb : Below W.heap.size W V) : TabW S V t := by
  obtain ⟨h1, es, ck, h2, h3⟩ := h
  exact ⟨fun U k => h1 U ((AgX.of_below hb).trans k), es, ck, obj_kept h2 hb (Nat.le_refl _), h3.less (fun U k => (AgX.of_below hb).trans k)⟩
/-- While others turn what is theirs. -/
theorem TabW.turn {S S' : Nat → Prop} {W V : World} {t : Tm} (h : TabW S W t) (k : ∀ g o, W.heap[g]? = some o → ¬ S g → V.heap[g]? = some o ∧ ¬ S' g) (hm : ¬ S t.mb) : TabW S' V t := by
  obtain ⟨h1, es, ck, h2, h3⟩ := h
  have q : ∀ U, AgX S' t.mb V U → AgX S t.mb W U := fun U hU g o e hs hne => hU g o (k g o e hs).1 (k g o e hs).2 hne
  exact ⟨fun U hU => h1 U (q U hU), es, ck, (k _ _ h2 hm).1, h3.less q⟩
/-- What the reading of a block answers, robustly. -/
def RdW (S : Nat → Prop) (w : World) (t : Tm) (q : Option (List Er)) (e : Ending) (w' : World) : Prop := (Tw t.mb w w' ∧ TabW S w' t) ∧ match q with
  | none => ∃ A n c, e = .returned (.tuple #[.slice A n c, .bool false])
  | some l => ∃ l' A c, ers l' = l ∧ e = .returned (.tuple #[.slice A l'.length c, .bool true]) ∧ (∀ V, AgX S t.mb w' V → Lies V A (evals l') ∧ EIns V l') ∧ (∀ q ∈ l', EFit q) ∧ l'.length ≤ c ∧ (c : Int) ≤ 9223372036854775807
theorem rdW_none {S : Nat → Prop} {w w' : World} {t : Tm} {q : Option (List Er)} {A : Option Addr} {n c : Nat} (h : q = none) (ht : TabW S w t) (hb : Below w.heap.size w w') : RdW S w t q (.returned (.tuple #[.slice A n c, .bool false])) w' := by
  subst h
  exact ⟨⟨Tw.of_below hb, ht.kept hb⟩, A, n, c, rfl⟩
theorem rdW_some {S : Nat → Prop} {w w' : World} {t : Tm} {q : Option (List Er)} {l : List En} {A : Option Addr} {c : Nat} (h : q = some (ers l)) (hw : Tw t.mb w w') (ht : TabW S w' t) (h1 : ∀ V, AgX S t.mb w' V → Lies V A (evals l) ∧ EIns V l) (h3 : ∀ q ∈ l, EFit q) (h4 : l.length ≤ c ∧ (c : Int) ≤ 9223372036854775807) : RdW S w t q (.returned (.tuple #[.slice A l.length c, .bool true])) w' := by
  subst h
  exact ⟨⟨hw, ht⟩, l, A, c, rfl, rfl, h1, h3, h4⟩
end Go.Proofs.YtmgggddnfeojmaaGreat
