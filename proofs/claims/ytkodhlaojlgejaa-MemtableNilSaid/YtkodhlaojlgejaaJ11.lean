/-
  Walks: lists of entries in order, made one, by the document. Walks: lists copied, and bytes marked, by the law. Walks: are pairs alike, by the document. What comes in, as the laws hold it; and what is answered, in plain terms. Entries, and lists of them, that come in.
-/
import Derived.Test.YtkodhlaojlgejaaJ01
import Derived.Test.YtkodhlaojlgejaaJ05
import Derived.Test.YtkodhlaojlgejaaJ09
import Derived.Test.YtkodhlaojlgejaaJ10
set_option linter.unusedSimpArgs false
set_option linter.unusedVariables false
namespace Go.Proofs.Ytkodhlaojlgejaa
open Go.RowKit
/-- All entries of lists, as they lie. -/
def flatE (Ls : List Gl) : List En := (gets Ls).flatten
theorem flatE_ers (Ls : List Gl) : ers (flatE Ls) = flat Ls := by
  unfold flatE flat ers
  induction gets Ls with
  | nil => rfl
  | cons a l ih => simp [ih]
theorem flatE_take {Ls : List Gl} {k : Nat} {g : Gl} (h : Ls[k]? = some g) : flatE (Ls.take (k + 1)) = flatE (Ls.take k) ++ g.l := by
  unfold flatE gets
  rw [List.take_add_one, h]
  simp
theorem flat_len_take (Ls : List Gl) (k : Nat) : (flatE (Ls.take k)).length ≤ (flat Ls).length := by
  have e : flatE Ls = flatE (Ls.take k) ++ flatE (Ls.drop k) := by
    unfold flatE gets
    rw [← List.flatten_append, ← List.map_append, List.take_append_drop]
  have h2 : (flatE Ls).length = (flat Ls).length := by rw [← flatE_ers, ers_len]
  rw [e, List.length_append] at h2
  omega
theorem flatE_mem {Ls : List Gl} {q : En} (h : q ∈ flatE Ls) : ∃ g ∈ Ls, q ∈ g.l := by
  unfold flatE gets at h
  obtain ⟨l, hl, hq⟩ := List.mem_flatten.1 h
  obtain ⟨g, hg, rfl⟩ := List.mem_map.1 hl
  exact ⟨g, hg, hq⟩
/-- Sorted, and no two that are neighbours at one place: in order. -/
def NoTwo (L : List Er) (i : Nat) : Prop := ∀ j x y, j + 1 < i → L[j]? = some x → L[j + 1]? = some y → ordE x y ≠ 0
theorem noTwo_strict : ∀ {L : List Er}, List.Pairwise leE L → NoTwo L L.length → List.Pairwise (fun x y => ordE x y < 0) L
  | [], _, _ => List.Pairwise.nil
  | [x], _, _ => List.pairwise_singleton _ _
  | x :: y :: L, h, hn => by
    obtain ⟨h1, h2⟩ := List.pairwise_cons.1 h
    have ih := noTwo_strict (L := y :: L) h2 (fun j a b hj ha hb => hn (j + 1) a b (by simp at hj ⊢; omega) (by simpa using ha) (by simpa using hb))
    have hxy : ordE x y < 0 := by
      have a := h1 y (List.mem_cons_self ..)
      have b := hn 0 x y (by simp) rfl rfl
      unfold leE at a
      omega
    refine List.pairwise_cons.2 ⟨fun z hz => ?_, ih⟩
    rcases List.mem_cons.1 hz with e | e
    · rw [e]; exact hxy
    · exact ordE_trans hxy ((List.pairwise_cons.1 ih).1 z e)
theorem two_not_apt {L : List Er} {j : Nat} {x y : Er} (hx : L[j]? = some x) (hy : L[j + 1]? = some y) (h : ordE x y = 0) : ¬ Apt L := fun ha => by
  have h1 := (List.getElem?_eq_some_iff.1 hx).1
  have h2 := (List.getElem?_eq_some_iff.1 hy).1
  have := List.pairwise_iff_getElem.1 ha j (j + 1) h1 h2 (by omega)
  rw [List.getElem?_eq_getElem h1] at hx
  rw [List.getElem?_eq_getElem h2] at hy
  injection hx with hx
  injection hy with hy
  rw [hx, hy] at this
  exact this h
/-- What the document's Merge answers. -/
def RMgd (Ls : List Gl) (w : World) (e : Ending) (w' : World) : Prop := ∃ (M : List En) (A' : Option Addr) (m c' : Nat) (er : Int), e = .returned (.tuple #[.slice A' m c', .int .i64 er]) ∧ M.length = m ∧ ((er = 30 ∧ M = [] ∧ ¬ ∀ g ∈ Ls, OrdL (ers g.l)) ∨ ((∀ g ∈ Ls, OrdL (ers g.l)) ∧ ((er = 0 ∧ OrdL (ers M) ∧ (ers M).Perm (flat Ls)) ∨ (er = 31 ∧ M = [] ∧ ¬ Apt (flat Ls))))) ∧ Lies w' A' (evals M) ∧ EIns w' M ∧ Below w.heap.size w w'
set_option maxRecDepth 100000 in
set_option maxHeartbeats 16000000 in
theorem refMerge_any (A : Option Addr) (Ls : List Gl) (n c : Nat) (w : World) (h : LsIn w A Ls n c) (hk : ∀ x ∈ flat Ls, x.1.length ≤ 140737488355328) (hg : ∀ g ∈ Ls, g.l.length * 64 ≤ 140737488351232) (h9 : n * 24 ≤ 140737488351232) (ht : (flat Ls).length * 64 ≤ 140737488351232) : Calls Try.prog 25 #[.slice A n c] w (RMgd Ls w) := by
  have HH := Lib.hid h
  have HK : Hid (∀ g ∈ Ls, ∀ q ∈ g.l, q.k.l.length ≤ 281474976710656) := Lib.hid (fun g hg q hq => by
    have := hk q.rd (by rw [← flatE_ers]; exact List.mem_map_of_mem (List.mem_flatten.2 ⟨g.l, List.mem_map_of_mem hg, hq⟩))
    have e : q.rd.1 = q.k.l := rfl
    rw [e] at this
    omega)
  have HN := Lib.hid h.len
  have HT := Lib.hid ht
  have HG := Lib.hid hg
  unfold RMgd
  clear h hk ht hg
  go_enter Try.func25, Try.ntmps25
  go_wp2_with fail
  go_loopw [4, 9] (fun t4 t9 wr => ∃ (k : Nat) (Am : Option Addr) (m cm : Nat), k ≤ n ∧ t9 = .int .i64 k ∧ t4 = .slice Am m cm ∧ Hid (Below w.heap.size w wr ∧ (∀ g ∈ Ls.take k, OrdL (ers g.l)) ∧ (flatE (Ls.take k)).length = m ∧ Erow wr w.heap.size Am cm (flatE (Ls.take k)))) (fun _ t9 _ => n - (intOf t9).toNat)
  case atStart => exact ⟨0, none, 0, 0, by omega, rfl, rfl, Lib.hid ⟨Below.refl _ _, fun _ h => by simp at h, by simp [flatE, gets], by simpa [flatE, gets] using Erow.nil w w.heap.size⟩⟩
  case round =>
    obtain ⟨k, Am, m, cm, hk, rfl, rfl, hr⟩ := hrel
    by_cases hlt : k < n
    · have hq := List.getElem?_eq_getElem (l := Ls) (i := k) (by have := HN.out; omega)
      generalize Ls[k]'(by have := HN.out; omega) = g at hq
      obtain ⟨ad, rfl, a0⟩ := take_gvals (HH.out.lies.kept hr.out.1) hq
      have hmem := List.mem_of_getElem? hq
      have HQ := Lib.hid hq
      have HM := Lib.hid hmem
      have HE := Lib.hid (HH.out.each g hmem)
      have HTK : Hid (∀ x ∈ Ls.take (k + 1), x ∈ Ls.take k ∨ x = g) := Lib.hid (fun x hx => by
        rw [List.take_add_one, hq, Option.toList_some] at hx
        rcases List.mem_append.1 hx with e | e
        · exact .inl e
        · exact .inr (List.mem_singleton.1 e))
      have k0 : (k : Int) < n := by omega
      obtain ⟨od, hod⟩ : ∃ od, decide (OrdL (ers g.l)) = od := ⟨_, rfl⟩
      obtain ⟨gn, hgn⟩ : ∃ m, g.l.length = m := ⟨_, rfl⟩
      have HMS : Hid (Calls Try.prog 31 #[.slice g.a gn g.c] wr fun e w' => e = .returned (.bool od) ∧ Below wr.heap.size wr w') := Lib.hid (by
        have := refOrdered_any g.a g.l gn g.c wr hgn (HE.out.1.kept hr.out.1) (HE.out.2.1.kept hr.out.1) (by have := HG.out g hmem; omega) (HK.out g hmem)
        rwa [hod] at this)
      have HOD := Lib.hid hod
      have HGN := Lib.hid hgn
      have HCL : Hid (∀ W, Below w.heap.size w W → W.cell? (ad.add k) = some (.slice g.a gn g.c)) := Lib.hid (fun W hW => by
        obtain ⟨ad', e, a1⟩ := take_gvals (HH.out.lies.kept hW) hq
        injection e with e
        subst e
        rw [a1]
        unfold Gl.val
        rw [hgn])
      unfold Gl.val at a0
      rw [hgn] at a0
      clear hq hmem hod hgn
      cases od
      · go_wp2_with (go_at_call 31; refine HMS.out.mono ?_; rintro e w2 ⟨rfl, b2⟩; have B2 : Hid (Below w.heap.size w w2) := Lib.hid (hr.out.1.trans (b2.mono hr.out.1.size)); clear b2)
        go_ret2
        exact ⟨[], none, 0, 0, 30, rfl, rfl, .inl ⟨rfl, rfl, fun ha => of_decide_eq_false HOD.out (ha g HM.out)⟩, .inl rfl, EIns.nil _, B2.out⟩
      · have HTOT : Hid (m + gn ≤ (flat Ls).length) := Lib.hid (by
          have := flat_len_take Ls (k + 1)
          rw [flatE_take HQ.out, List.length_append, hr.out.2.2.1, HGN.out] at this
          exact this)
        go_upto_region 7 with (go_at_call 31; refine HMS.out.mono ?_; rintro e w2 ⟨rfl, b2⟩; have B2 : Hid (Below w.heap.size w w2 ∧ Below wr.heap.size wr w2) := Lib.hid ⟨hr.out.1.trans (b2.mono hr.out.1.size), b2⟩; clear b2)
        clear a0
        have a0 := HCL.out w2 B2.out.1
        go_upto_region 8 with (at_builtin; refine wpList_append_erow _ (by rfl) (.tmp 18) (.tmp 22) (by rfl) w.heap.size Am cm (flatE (Ls.take k)) g.l _ m gn g.c (by first | rfl | (simp [Act.eval]; done)) (by first | rfl | (simp [Act.eval]; done)) hr.out.2.2.1 HGN.out (hr.out.2.2.2.kept B2.out.2 (Nat.le_refl _)) (HE.out.1.kept B2.out.1) B2.out.1.size (by have := hr.out.2.2.1; have := HGN.out; have := HTOT.out; have := HT.out; omega) ?_; intro A8 c8 w8 r8 b8 g8; have H8 : Hid (Erow w8 w.heap.size A8 c8 (flatE (Ls.take k) ++ g.l) ∧ Below w.heap.size w w8) := Lib.hid ⟨r8, B2.out.1.trans b8⟩; clear r8 b8 g8)
        go_wp2_with fail
        go_roundw
        case rel => exact ⟨k + 1, A8, m + gn, c8, by omega, by go_num, rfl, Lib.hid ⟨H8.out.2, fun x hx => (HTK.out x hx).elim (hr.out.2.1 x) (fun e => e ▸ of_decide_eq_true HOD.out), by rw [flatE_take HQ.out, List.length_append, hr.out.2.2.1, HGN.out], by rw [flatE_take HQ.out]; exact H8.out.1⟩⟩
        case measure => simp [intOf]; omega
    · obtain rfl : n = k := by omega
      have HALL : Hid (∀ g ∈ Ls, OrdL (ers g.l)) := Lib.hid (by have := hr.out.2.1; rwa [List.take_of_length_le (by have := HN.out; omega)] at this)
      have HRW : Hid ((flatE Ls).length = m ∧ Erow wr w.heap.size Am cm (flatE Ls)) := Lib.hid (by have := hr.out.2.2; rwa [List.take_of_length_le (by have := HN.out; omega)] at this)
      have HCAP := Lib.hid (own_cap HRW.out.2)
      have HTOT : Hid (m * 64 ≤ 140737488351232) := Lib.hid (by have := HT.out; rw [← flatE_ers, ers_len, HRW.out.1] at this; exact this)
      have HEI : Hid (∀ W, Below w.heap.size w W → EIns W (flatE Ls)) := Lib.hid (fun W hW q hq => by
        obtain ⟨g, hg, hq⟩ := flatE_mem hq
        exact ((HH.out.each g hg).2.1.kept hW) q hq)
      have HSO : Hid (Calls Try.prog 21 #[.slice Am m cm] wr (SrtE (flatE Ls) wr)) := Lib.hid (refSorted_any m Am (flatE Ls) m cm wr HRW.out.1 (Nat.le_refl _) (by have := HCAP.out.1; have := HRW.out.1; omega) HCAP.out.2 HRW.out.2.lies (HEI.out wr hr.out.1) HTOT.out (fun q hq => by
        obtain ⟨g, hg, hq⟩ := flatE_mem hq
        exact HK.out g hg q hq))
      have HBW := Lib.hid hr.out.1
      clear hlt hk hr
      generalize wr = w1 at HSO HRW HBW ⊢
      go_upto_region 10 with (go_at_call 21; refine Calls.mono HSO.out ?_; rintro e w2 ⟨M, A2, m2, c2, rfl, a1, a2, a3, a4, a5, a6, b1⟩; obtain rfl : m = m2 := (by have := a5.length_eq; have := HRW.out.1; omega); have H2 : Hid (M.length = m ∧ m ≤ c2 ∧ (c2 : Int) ≤ 9223372036854775807 ∧ Lies w2 A2 (evals M) ∧ M.Perm (flatE Ls) ∧ List.Pairwise leE (ers M) ∧ Below w.heap.size w w2) := Lib.hid ⟨a1, a2, a3, a4, a5, a6, HBW.out.trans (b1.mono HBW.out.size)⟩; clear a1 a2 a3 a4 a5 a6 b1 HSO)
      have HPF : Hid ((ers M).Perm (flat Ls)) := Lib.hid (by rw [← flatE_ers]; exact H2.out.2.2.2.2.1.map _)
      have HMM : Hid (∀ q ∈ M, q.k.l.length ≤ 281474976710656) := Lib.hid (fun q hq => by
        obtain ⟨g, hg, hq⟩ := flatE_mem (H2.out.2.2.2.2.1.mem_iff.1 hq)
        exact HK.out g hg q hq)
      have HMI : Hid (∀ W, Below w.heap.size w W → EIns W M) := Lib.hid (fun W hW q hq => HEI.out W hW q (H2.out.2.2.2.2.1.mem_iff.1 hq))
      have m9 : m * 64 ≤ 140737488351232 := HTOT.out
      go_wp2_with fail
      go_loopw [6] (fun t6 wr => ∃ i : Nat, 1 ≤ i ∧ t6 = .int .i64 i ∧ Hid ((i ≤ m ∨ i = 1) ∧ NoTwo (ers M) i ∧ Below w2.heap.size w2 wr)) (fun t6 _ => m - (intOf t6).toNat)
      case atStart => exact ⟨1, by omega, rfl, Lib.hid ⟨.inr rfl, fun j x y hj => by omega, Below.refl _ _⟩⟩
      case round =>
        obtain ⟨i, hi, rfl, hv⟩ := hrel
        by_cases hlt : i < m
        · obtain ⟨j, hj⟩ : ∃ j, i = j + 1 := ⟨i - 1, by omega⟩
          have hqx := List.getElem?_eq_getElem (l := M) (i := j) (by have := H2.out.1; omega)
          generalize M[j]'(by have := H2.out.1; omega) = x at hqx
          have hqy := List.getElem?_eq_getElem (l := M) (i := i) (by have := H2.out.1; omega)
          generalize M[i]'(by have := H2.out.1; omega) = y at hqy
          obtain ⟨am, rfl, -⟩ := lies_entry H2.out.2.2.2.1 hqx
          obtain ⟨xn, hxn⟩ : ∃ m, x.k.l.length = m := ⟨_, rfl⟩
          obtain ⟨xv, hxv⟩ : ∃ m, x.v.l.length = m := ⟨_, rfl⟩
          obtain ⟨yn, hyn⟩ : ∃ m, y.k.l.length = m := ⟨_, rfl⟩
          obtain ⟨yv, hyv⟩ : ∃ m, y.v.l.length = m := ⟨_, rfl⟩
          have HWV : Hid (Below w.heap.size w wr) := Lib.hid (H2.out.2.2.2.2.2.2.trans (hv.out.2.2.mono H2.out.2.2.2.2.2.2.size))
          have HSC : Hid (∀ V, Below wr.heap.size wr V → (V.cell? (am.add (j * 4)) = some (.slice x.k.a xn x.k.c) ∧ V.cell? ⟨(am.add (j * 4)).block, (am.add (j * 4)).off + 1, none⟩ = some (.int .i64 x.s) ∧ V.cell? ⟨(am.add (j * 4)).block, (am.add (j * 4)).off + 2, none⟩ = some (.bool x.d) ∧ V.cell? ⟨(am.add (j * 4)).block, (am.add (j * 4)).off + 3, none⟩ = some (.slice x.v.a xv x.v.c)) ∧ V.cell? (am.add (i * 4)) = some (.slice y.k.a yn y.k.c) ∧ V.cell? ⟨(am.add (i * 4)).block, (am.add (i * 4)).off + 1, none⟩ = some (.int .i64 y.s) ∧ V.cell? ⟨(am.add (i * 4)).block, (am.add (i * 4)).off + 2, none⟩ = some (.bool y.d) ∧ V.cell? ⟨(am.add (i * 4)).block, (am.add (i * 4)).off + 3, none⟩ = some (.slice y.v.a yv y.v.c)) := Lib.hid (fun V hV => by
            have hL := H2.out.2.2.2.1.kept (hv.out.2.2.trans (hV.mono hv.out.2.2.size))
            have p1 := lies_entry_at hL hqx
            have p2 := lies_entry_at hL hqy
            unfold AtE at p1 p2
            rw [hxn, hxv] at p1
            rw [hyn, hyv] at p2
            exact ⟨p1, p2⟩)
          obtain ⟨o, ho⟩ : ∃ o, ordE x.rd y.rd = o := ⟨_, rfl⟩
          have HOR : Hid (∀ V, Below wr.heap.size wr V → Calls Try.prog 43 #[.agg #[.slice x.k.a xn x.k.c, .int .i64 x.s, .bool x.d, .slice x.v.a xv x.v.c], .agg #[.slice y.k.a yn y.k.c, .int .i64 y.s, .bool y.d, .slice y.v.a yv y.v.c]] V fun e w' => e = .returned (.int .i64 o) ∧ Below V.heap.size V w') := Lib.hid (fun V hV => by
            have hb : Below w.heap.size w V := HWV.out.trans (hV.mono HWV.out.size)
            have hx := List.mem_of_getElem? hqx
            have hy := List.mem_of_getElem? hqy
            have := refCmp_any x y V (HMI.out V hb x hx) (HMI.out V hb y hy) (HMM.out x hx) (HMM.out y hy)
            rwa [En.val_eq, En.val_eq, hxn, hxv, hyn, hyv, ho] at this)
          have HJ2 : Hid (IntKind.i64.wrap ((i : Int) - 1) = j) := Lib.hid (by have := HTOT.out; rw [IntKind.wrap_i64]; omega)
          have HXY : Hid ((ers M)[j]? = some x.rd ∧ (ers M)[j + 1]? = some y.rd ∧ i = j + 1) := Lib.hid ⟨ers_get hqx, hj ▸ ers_get hqy, hj⟩
          have k0 : (i : Int) < m := by omega
          have k1 : (j : Int) < m := by omega
          have HOO := Lib.hid ho
          clear hqx hqy hxn hxv hyn hyv ho hj
          go_upto_region 13 with fail
          by_cases h0 : o = 0
          · have d0 : (o == 0) = true := by simpa using h0
            have HZ : Hid (ordE x.rd y.rd = 0) := Lib.hid (HOO.out.trans h0)
            clear h0
            refine wp_region_held (S := fun V => (V.cell? (am.add (j * 4)) = some (.slice x.k.a xn x.k.c) ∧ V.cell? ⟨(am.add (j * 4)).block, (am.add (j * 4)).off + 1, none⟩ = some (.int .i64 x.s) ∧ V.cell? ⟨(am.add (j * 4)).block, (am.add (j * 4)).off + 2, none⟩ = some (.bool x.d) ∧ V.cell? ⟨(am.add (j * 4)).block, (am.add (j * 4)).off + 3, none⟩ = some (.slice x.v.a xv x.v.c)) ∧ V.cell? (am.add (i * 4)) = some (.slice y.k.a yn y.k.c) ∧ V.cell? ⟨(am.add (i * 4)).block, (am.add (i * 4)).off + 1, none⟩ = some (.int .i64 y.s) ∧ V.cell? ⟨(am.add (i * 4)).block, (am.add (i * 4)).off + 2, none⟩ = some (.bool y.d) ∧ V.cell? ⟨(am.add (i * 4)).block, (am.add (i * 4)).off + 3, none⟩ = some (.slice y.v.a yv y.v.c)) (by kernel_rfl) ?_
            change wpAnyH _ _ _ _ _ _ _ _ (World.drew _)
            have s0 := HSC.out _ (Below.refl _ _).drew
            refine wpAnyH_take (i := 0) (v := .slice (some am) m c2) rfl (by kernel_rfl) (by kernel_rfl) (by kernel_rfl) (fun _ _ _ h => h) (Or.inl ⟨by first | kernel_rfl | rfl, fun _ hS => by go_simp⟩) s0 ?_
            try simp only [Act.put, List.getElem_toArray, List.getElem_cons_zero, List.getElem_cons_succ, List.setIfInBounds_toArray, List.set_cons_zero, List.set_cons_succ]
            refine wpAnyH_take (i := 1) (v := .int .i64 (i : Int)) rfl (by kernel_rfl) (by kernel_rfl) (by kernel_rfl) (fun _ _ _ h => h) (Or.inl ⟨by first | kernel_rfl | rfl, fun _ hS => by go_simp⟩) s0 ?_
            try simp only [Act.put, List.getElem_toArray, List.getElem_cons_zero, List.getElem_cons_succ, List.setIfInBounds_toArray, List.set_cons_zero, List.set_cons_succ]
            refine wpAnyH_take (i := 2) (v := .int .i64 (j : Int)) rfl (by kernel_rfl) (by kernel_rfl) (by kernel_rfl) (fun _ _ _ h => h) (Or.inl ⟨by first | kernel_rfl | rfl, fun _ hS => by go_simp; exact HJ2.out⟩) s0 ?_
            try simp only [Act.put, List.getElem_toArray, List.getElem_cons_zero, List.getElem_cons_succ, List.setIfInBounds_toArray, List.set_cons_zero, List.set_cons_succ]
            refine wpAnyH_take (i := 3) (v := .pointer (some (am.add (j * 4)))) rfl (by kernel_rfl) (by kernel_rfl) (by kernel_rfl) (fun _ _ _ h => h) (Or.inl ⟨by first | kernel_rfl | rfl, fun _ hS => by go_simp⟩) s0 ?_
            try simp only [Act.put, List.getElem_toArray, List.getElem_cons_zero, List.getElem_cons_succ, List.setIfInBounds_toArray, List.set_cons_zero, List.set_cons_succ]
            refine wpAnyH_take (i := 4) (v := .agg #[.slice x.k.a xn x.k.c, .int .i64 x.s, .bool x.d, .slice x.v.a xv x.v.c]) rfl (by kernel_rfl) (by kernel_rfl) (by kernel_rfl) (fun _ _ _ h => h) (Or.inl ⟨by first | kernel_rfl | rfl, fun _ hS => by obtain ⟨⟨k1, k2, k3, k4⟩, k5, k6, k7, k8⟩ := hS; go_simp⟩) s0 ?_
            try simp only [Act.put, List.getElem_toArray, List.getElem_cons_zero, List.getElem_cons_succ, List.setIfInBounds_toArray, List.set_cons_zero, List.set_cons_succ]
            refine wpAnyH_take (i := 5) (v := .slice (some am) m c2) rfl (by kernel_rfl) (by kernel_rfl) (by kernel_rfl) (fun _ _ _ h => h) (Or.inl ⟨by first | kernel_rfl | rfl, fun _ hS => by go_simp⟩) s0 ?_
            try simp only [Act.put, List.getElem_toArray, List.getElem_cons_zero, List.getElem_cons_succ, List.setIfInBounds_toArray, List.set_cons_zero, List.set_cons_succ]
            refine wpAnyH_take (i := 6) (v := .int .i64 (i : Int)) rfl (by kernel_rfl) (by kernel_rfl) (by kernel_rfl) (fun _ _ _ h => h) (Or.inl ⟨by first | kernel_rfl | rfl, fun _ hS => by go_simp⟩) s0 ?_
            try simp only [Act.put, List.getElem_toArray, List.getElem_cons_zero, List.getElem_cons_succ, List.setIfInBounds_toArray, List.set_cons_zero, List.set_cons_succ]
            refine wpAnyH_take (i := 7) (v := .pointer (some (am.add (i * 4)))) rfl (by kernel_rfl) (by kernel_rfl) (by kernel_rfl) (fun _ _ _ h => h) (Or.inl ⟨by first | kernel_rfl | rfl, fun _ hS => by go_simp⟩) s0 ?_
            try simp only [Act.put, List.getElem_toArray, List.getElem_cons_zero, List.getElem_cons_succ, List.setIfInBounds_toArray, List.set_cons_zero, List.set_cons_succ]
            refine wpAnyH_take (i := 8) (v := .agg #[.slice y.k.a yn y.k.c, .int .i64 y.s, .bool y.d, .slice y.v.a yv y.v.c]) rfl (by kernel_rfl) (by kernel_rfl) (by kernel_rfl) (fun _ _ _ h => h) (Or.inl ⟨by first | kernel_rfl | rfl, fun _ hS => by obtain ⟨⟨k1, k2, k3, k4⟩, k5, k6, k7, k8⟩ := hS; go_simp⟩) s0 ?_
            try simp only [Act.put, List.getElem_toArray, List.getElem_cons_zero, List.getElem_cons_succ, List.setIfInBounds_toArray, List.set_cons_zero, List.set_cons_succ]
            refine wpAnyH_ready (rs := [9]) (by kernel_rfl) (by simp) ?_
            refine AllReadyH.cons rfl (fun K hK => ?_) AllReadyH.nil
            go_simp
            go_at_call 43
            refine (HOR.out _ (Below.refl _ _).drew).mono ?_
            rintro e w6 ⟨rfl, b6⟩
            have B6 : Hid (Below wr.heap.size wr w6) := Lib.hid (below_then (Below.refl _ _).drew b6)
            clear b6
            refine hK.out _ _ (HSC.out _ B6.out) (fun _ => ?_)
            clear hK K
            try simp only [Act.put, List.getElem_toArray, List.getElem_cons_zero, List.getElem_cons_succ, List.setIfInBounds_toArray, List.set_cons_zero, List.set_cons_succ]
            have s1 := HSC.out _ B6.out
            refine wpAnyH_take (i := 10) (v := .bool true) rfl (by kernel_rfl) (by kernel_rfl) (by kernel_rfl) (fun _ _ _ h => h) (Or.inl ⟨by first | kernel_rfl | rfl, fun _ hS => by go_simp⟩) s1 ?_
            try simp only [Act.put, List.getElem_toArray, List.getElem_cons_zero, List.getElem_cons_succ, List.setIfInBounds_toArray, List.set_cons_zero, List.set_cons_succ]
            refine wpAnyH_done (by kernel_rfl) ?_ _
            try simp only [Act.put, List.getElem_toArray, List.getElem_cons_zero, List.getElem_cons_succ, List.setIfInBounds_toArray, List.set_cons_zero, List.set_cons_succ]
            go_wp2_with fail
            go_ret2
            exact ⟨[], none, 0, 0, 31, rfl, rfl, .inr ⟨HALL.out, .inr ⟨rfl, rfl, fun ha => two_not_apt HXY.out.1 HXY.out.2.1 HZ.out ((apt_perm HPF.out).2 ha)⟩⟩, .inl rfl, EIns.nil _, HWV.out.trans (B6.out.mono HWV.out.size)⟩
          · have d0 : (o == 0) = false := by simpa using h0
            have HZ : Hid (ordE x.rd y.rd ≠ 0) := Lib.hid (by rw [HOO.out]; exact h0)
            clear h0
            refine wp_region_held (S := fun V => (V.cell? (am.add (j * 4)) = some (.slice x.k.a xn x.k.c) ∧ V.cell? ⟨(am.add (j * 4)).block, (am.add (j * 4)).off + 1, none⟩ = some (.int .i64 x.s) ∧ V.cell? ⟨(am.add (j * 4)).block, (am.add (j * 4)).off + 2, none⟩ = some (.bool x.d) ∧ V.cell? ⟨(am.add (j * 4)).block, (am.add (j * 4)).off + 3, none⟩ = some (.slice x.v.a xv x.v.c)) ∧ V.cell? (am.add (i * 4)) = some (.slice y.k.a yn y.k.c) ∧ V.cell? ⟨(am.add (i * 4)).block, (am.add (i * 4)).off + 1, none⟩ = some (.int .i64 y.s) ∧ V.cell? ⟨(am.add (i * 4)).block, (am.add (i * 4)).off + 2, none⟩ = some (.bool y.d) ∧ V.cell? ⟨(am.add (i * 4)).block, (am.add (i * 4)).off + 3, none⟩ = some (.slice y.v.a yv y.v.c)) (by kernel_rfl) ?_
            change wpAnyH _ _ _ _ _ _ _ _ (World.drew _)
            have s0 := HSC.out _ (Below.refl _ _).drew
            refine wpAnyH_take (i := 0) (v := .slice (some am) m c2) rfl (by kernel_rfl) (by kernel_rfl) (by kernel_rfl) (fun _ _ _ h => h) (Or.inl ⟨by first | kernel_rfl | rfl, fun _ hS => by go_simp⟩) s0 ?_
            try simp only [Act.put, List.getElem_toArray, List.getElem_cons_zero, List.getElem_cons_succ, List.setIfInBounds_toArray, List.set_cons_zero, List.set_cons_succ]
            refine wpAnyH_take (i := 1) (v := .int .i64 (i : Int)) rfl (by kernel_rfl) (by kernel_rfl) (by kernel_rfl) (fun _ _ _ h => h) (Or.inl ⟨by first | kernel_rfl | rfl, fun _ hS => by go_simp⟩) s0 ?_
            try simp only [Act.put, List.getElem_toArray, List.getElem_cons_zero, List.getElem_cons_succ, List.setIfInBounds_toArray, List.set_cons_zero, List.set_cons_succ]
            refine wpAnyH_take (i := 2) (v := .int .i64 (j : Int)) rfl (by kernel_rfl) (by kernel_rfl) (by kernel_rfl) (fun _ _ _ h => h) (Or.inl ⟨by first | kernel_rfl | rfl, fun _ hS => by go_simp; exact HJ2.out⟩) s0 ?_
            try simp only [Act.put, List.getElem_toArray, List.getElem_cons_zero, List.getElem_cons_succ, List.setIfInBounds_toArray, List.set_cons_zero, List.set_cons_succ]
            refine wpAnyH_take (i := 3) (v := .pointer (some (am.add (j * 4)))) rfl (by kernel_rfl) (by kernel_rfl) (by kernel_rfl) (fun _ _ _ h => h) (Or.inl ⟨by first | kernel_rfl | rfl, fun _ hS => by go_simp⟩) s0 ?_
            try simp only [Act.put, List.getElem_toArray, List.getElem_cons_zero, List.getElem_cons_succ, List.setIfInBounds_toArray, List.set_cons_zero, List.set_cons_succ]
            refine wpAnyH_take (i := 4) (v := .agg #[.slice x.k.a xn x.k.c, .int .i64 x.s, .bool x.d, .slice x.v.a xv x.v.c]) rfl (by kernel_rfl) (by kernel_rfl) (by kernel_rfl) (fun _ _ _ h => h) (Or.inl ⟨by first | kernel_rfl | rfl, fun _ hS => by obtain ⟨⟨k1, k2, k3, k4⟩, k5, k6, k7, k8⟩ := hS; go_simp⟩) s0 ?_
            try simp only [Act.put, List.getElem_toArray, List.getElem_cons_zero, List.getElem_cons_succ, List.setIfInBounds_toArray, List.set_cons_zero, List.set_cons_succ]
            refine wpAnyH_take (i := 5) (v := .slice (some am) m c2) rfl (by kernel_rfl) (by kernel_rfl) (by kernel_rfl) (fun _ _ _ h => h) (Or.inl ⟨by first | kernel_rfl | rfl, fun _ hS => by go_simp⟩) s0 ?_
            try simp only [Act.put, List.getElem_toArray, List.getElem_cons_zero, List.getElem_cons_succ, List.setIfInBounds_toArray, List.set_cons_zero, List.set_cons_succ]
            refine wpAnyH_take (i := 6) (v := .int .i64 (i : Int)) rfl (by kernel_rfl) (by kernel_rfl) (by kernel_rfl) (fun _ _ _ h => h) (Or.inl ⟨by first | kernel_rfl | rfl, fun _ hS => by go_simp⟩) s0 ?_
            try simp only [Act.put, List.getElem_toArray, List.getElem_cons_zero, List.getElem_cons_succ, List.setIfInBounds_toArray, List.set_cons_zero, List.set_cons_succ]
            refine wpAnyH_take (i := 7) (v := .pointer (some (am.add (i * 4)))) rfl (by kernel_rfl) (by kernel_rfl) (by kernel_rfl) (fun _ _ _ h => h) (Or.inl ⟨by first | kernel_rfl | rfl, fun _ hS => by go_simp⟩) s0 ?_
            try simp only [Act.put, List.getElem_toArray, List.getElem_cons_zero, List.getElem_cons_succ, List.setIfInBounds_toArray, List.set_cons_zero, List.set_cons_succ]
            refine wpAnyH_take (i := 8) (v := .agg #[.slice y.k.a yn y.k.c, .int .i64 y.s, .bool y.d, .slice y.v.a yv y.v.c]) rfl (by kernel_rfl) (by kernel_rfl) (by kernel_rfl) (fun _ _ _ h => h) (Or.inl ⟨by first | kernel_rfl | rfl, fun _ hS => by obtain ⟨⟨k1, k2, k3, k4⟩, k5, k6, k7, k8⟩ := hS; go_simp⟩) s0 ?_
            try simp only [Act.put, List.getElem_toArray, List.getElem_cons_zero, List.getElem_cons_succ, List.setIfInBounds_toArray, List.set_cons_zero, List.set_cons_succ]
            refine wpAnyH_ready (rs := [9]) (by kernel_rfl) (by simp) ?_
            refine AllReadyH.cons rfl (fun K hK => ?_) AllReadyH.nil
            go_simp
            go_at_call 43
            refine (HOR.out _ (Below.refl _ _).drew).mono ?_
            rintro e w6 ⟨rfl, b6⟩
            have B6 : Hid (Below wr.heap.size wr w6) := Lib.hid (below_then (Below.refl _ _).drew b6)
            clear b6
            refine hK.out _ _ (HSC.out _ B6.out) (fun _ => ?_)
            clear hK K
            try simp only [Act.put, List.getElem_toArray, List.getElem_cons_zero, List.getElem_cons_succ, List.setIfInBounds_toArray, List.set_cons_zero, List.set_cons_succ]
            have s1 := HSC.out _ B6.out
            refine wpAnyH_take (i := 10) (v := .bool false) rfl (by kernel_rfl) (by kernel_rfl) (by kernel_rfl) (fun _ _ _ h => h) (Or.inl ⟨by first | kernel_rfl | rfl, fun _ hS => by go_simp⟩) s1 ?_
            try simp only [Act.put, List.getElem_toArray, List.getElem_cons_zero, List.getElem_cons_succ, List.setIfInBounds_toArray, List.set_cons_zero, List.set_cons_succ]
            refine wpAnyH_done (by kernel_rfl) ?_ _
            try simp only [Act.put, List.getElem_toArray, List.getElem_cons_zero, List.getElem_cons_succ, List.setIfInBounds_toArray, List.set_cons_zero, List.set_cons_succ]
            go_wp2_with fail
            go_roundw
            case rel => exact ⟨i + 1, by omega, by go_num, Lib.hid ⟨.inl (by omega), fun j' a b hj' ha hb => (by
              by_cases e : j' = j
              · subst e
                rw [HXY.out.1] at ha
                rw [HXY.out.2.1] at hb
                injection ha with ha
                injection hb with hb
                rw [← ha, ← hb]
                exact HZ.out
              · exact hv.out.2.1 j' a b (by have := HXY.out.2.2; omega) ha hb), hv.out.2.2.trans (B6.out.mono hv.out.2.2.size)⟩⟩
            case measure => simp [intOf]; omega
        · have HNT : Hid (NoTwo (ers M) (ers M).length) := Lib.hid (by
            have := H2.out.1
            rw [ers_len]
            intro j' a b hj' ha hb
            exact hv.out.2.1 j' a b (by omega) ha hb)
          have HOL : Hid (OrdL (ers M)) := Lib.hid (OrdL.pw.2 ⟨fun e he => by
            have := HPF.out.mem_iff.1 he
            rw [← flat_fl] at this
            obtain ⟨l, hl, hx⟩ := List.mem_flatten.1 this
            obtain ⟨g, hg, rfl⟩ := List.mem_map.1 hl
            exact (HALL.out g hg).good e hx, noTwo_strict H2.out.2.2.2.2.2.1 HNT.out⟩)
          have HWV : Hid (Below w.heap.size w wr) := Lib.hid (H2.out.2.2.2.2.2.2.trans (hv.out.2.2.mono H2.out.2.2.2.2.2.2.size))
          go_wp2_with fail
          go_ret2
          exact ⟨M, A2, m, c2, 0, rfl, H2.out.1, .inr ⟨HALL.out, .inl ⟨rfl, HOL.out, HPF.out⟩⟩, H2.out.2.2.2.1.kept hv.out.2.2, HMI.out wr HWV.out, HWV.out⟩
end Go.Proofs.Ytkodhlaojlgejaa
namespace Go.Proofs.Ytkodhlaojlgejaa
open Go.RowKit
/-- Lists whose rows are the call's own. -/
def GMades (w : World) (B : Nat) (T : List Gl) : Prop := ∀ g ∈ T, Erow w B g.a g.c g.l ∧ EMades w B g.l
theorem GMades.nil (w : World) (B : Nat) : GMades w B [] := fun _ h => by cases h
theorem GMades.kept {w w' : World} {B C : Nat} {T : List Gl} (h : GMades w B T) (hb : Below C w w') (hC : w.heap.size ≤ C) : GMades w' B T := fun g hg => ⟨(h g hg).1.kept hb hC, (h g hg).2.kept hb hC⟩
theorem GMades.mono {w : World} {B C : Nat} {T : List Gl} (h : GMades w B T) (hC : C ≤ B) : GMades w C T := fun g hg => ⟨(h g hg).1.mono hC, (h g hg).2.mono hC⟩
theorem GMades.besideG {w w' : World} {B D d : Nat} {C : Option Addr} {T U : List Gl} (h : GMades w B T) (hs : Grow w D C d U) (hg : w.grownBy w' (Value.slice C U.length d).ownBlock) : GMades w' B T := fun g hgm => by
  obtain ⟨h1, h2⟩ := h g hgm
  refine ⟨?_, fun q hq => ⟨own_apart (h2 q hq).1 hs (by decide) hg, own_apart (h2 q hq).2 hs (by decide) hg⟩⟩
  exact own_apart h1 hs (by decide) hg
theorem GMades.snoc {w : World} {B : Nat} {T : List Gl} {g : Gl} (h : GMades w B T) (h1 : Erow w B g.a g.c g.l) (h2 : EMades w B g.l) : GMades w B (T ++ [g]) := fun x hx => by
  rcases List.mem_append.1 hx with e | e
  · exact h x e
  · rw [List.mem_singleton.1 e]; exact ⟨h1, h2⟩
theorem fl_append (S T : List Gl) : fl (S ++ T) = fl S ++ fl T := by simp [fl]
theorem fl_get {T : List Gl} {k : Nat} {g : Gl} (h : T[k]? = some g) : (fl T)[k]? = some (ers g.l) := by simp [fl, h]
theorem fl_length (T : List Gl) : (fl T).length = T.length := by simp [fl]
/-- A literal of one list. -/
theorem lit_list (w : World) (A : Option Addr) (c m : Nat) (l : List En) (hm : l.length = m) : Lies (w.alloc (.cells #[.slice A m c] 22)) (some ⟨w.heap.size, 0, none⟩) (gvals [⟨A, c, l⟩]) := by
  subst hm
  exact lit_lies w _ _ rfl _
set_option maxRecDepth 100000 in
set_option maxHeartbeats 8000000 in
theorem lists_any (A : Option Addr) (Ls : List Gl) (n c : Nat) (w : World) (h : LsIn w A Ls n c) (h9 : n * 24 ≤ 140737488351232) (hg : ∀ g ∈ Ls, g.l.length * 64 ≤ 140737488351232 ∧ ∀ q ∈ g.l, q.k.l.length ≤ 140737488351232 ∧ q.v.l.length ≤ 140737488351232) :
    Calls Try.prog 24 #[.slice A n c] w fun e w' => ∃ (T : List Gl) (A' : Option Addr) (c' : Nat), e = .returned (.slice A' n c') ∧ T.length = n ∧ fl T = fl Ls ∧ GMades w' w.heap.size T ∧ Grow w' w.heap.size A' c' T ∧ Below w.heap.size w w' := by
  have HH := Lib.hid h
  have HN := Lib.hid h.len
  have HG := Lib.hid hg
  have H9 := Lib.hid h9
  clear h hg
  go_enter Try.func24, Try.ntmps24
  go_wp2_with fail
  go_loopw [3, 7] (fun t3 t7 wr => ∃ (k : Nat) (A2 : Option Addr) (c2 : Nat) (T : List Gl), k ≤ n ∧ t7 = .int .i64 k ∧ t3 = .slice A2 k c2 ∧ Hid (T.length = k ∧ fl T = (fl Ls).take k ∧ GMades wr w.heap.size T ∧ Grow wr w.heap.size A2 c2 T ∧ Below w.heap.size w wr)) (fun _ t7 _ => n - (intOf t7).toNat)
  case atStart => exact ⟨0, none, 0, [], by omega, rfl, rfl, Lib.hid ⟨rfl, rfl, GMades.nil _ _, Grow.nil _ _, Below.refl _ _⟩⟩
  case round =>
    obtain ⟨k, A2, c2, T, hk, rfl, rfl, hr⟩ := hrel
    by_cases hlt : k < n
    · have hq := List.getElem?_eq_getElem (l := Ls) (i := k) (by have := HN.out; omega)
      generalize Ls[k]'(by have := HN.out; omega) = g at hq
      obtain ⟨ad, rfl, a0⟩ := take_gvals (HH.out.lies.kept hr.out.2.2.2.2) hq
      have hmem := List.mem_of_getElem? hq
      have HE := HH.out.each g hmem
      obtain ⟨gn, hgn⟩ : ∃ m, g.l.length = m := ⟨_, rfl⟩
      have HCP : Hid (Calls Try.prog 19 #[.slice g.a gn g.c] wr (ECopied wr g.l)) := Lib.hid (refCopy_any g.a g.l gn g.c wr hgn (HE.1.kept hr.out.2.2.2.2) (HE.2.1.kept hr.out.2.2.2.2) (by have := (HG.out g hmem).1; omega) (HG.out g hmem).2)
      have HFL := Lib.hid (fl_get hq)
      have HGN := Lib.hid hgn
      have k0 : (k : Int) < n := by omega
      unfold Gl.val at a0
      rw [hgn] at a0
      clear hq hmem HE hgn
      have HL1 := Lib.hid hr.out.1
      go_upto_region 6 with (first
        | (go_at_call 19; refine HCP.out.mono ?_; rintro e w6 ⟨l', A6, c6, he, rfl, hm, hrow, hb⟩; obtain ⟨ln, hln⟩ : ∃ m, l'.length = m := ⟨_, rfl⟩; rw [hln]; have H6 : Hid (l'.length = ln ∧ ers l' = ers g.l ∧ EMades w6 wr.heap.size l' ∧ Erow w6 wr.heap.size A6 c6 l' ∧ Below wr.heap.size wr w6) := Lib.hid ⟨hln, he, hm, hrow, hb⟩; clear hln he hm hrow hb HCP)
        | (at_builtin; refine wpList_append_grow _ (by rfl) (.tmp 10) (.tmp 16) (by rfl) w.heap.size A2 c2 T [⟨A6, c6, l'⟩] _ k 1 1 (by first | rfl | (simp [Act.eval]; done)) (by first | rfl | (simp [Act.eval]; done)) HL1.out rfl ((hr.out.2.2.2.1.kept H6.out.2.2.2.2 (Nat.le_refl _)).alloc _) (lit_list w6 A6 c6 ln l' H6.out.1) (by have := hr.out.2.2.2.2.size; have := H6.out.2.2.2.2.size; simp; omega) (by have := HL1.out; have := H9.out; simp only [List.length_singleton]; omega) ?_; intro A8 c8 w8 r8 b8 g8; have H8 : Hid (Grow w8 w.heap.size A8 c8 (T ++ [⟨A6, c6, l'⟩]) ∧ GMades w8 w.heap.size (T ++ [⟨A6, c6, l'⟩]) ∧ Below w.heap.size w w8) := (by
              have W6 : w.heap.size ≤ wr.heap.size := hr.out.2.2.2.2.size
              have hGr := ((hr.out.2.2.2.1.kept H6.out.2.2.2.2 (Nat.le_refl _)).alloc (.cells #[.slice A6 ln c6] 22))
              have g9 : (w6.alloc (.cells #[.slice A6 ln c6] 22)).grownBy w8 (Value.slice A2 T.length c2).ownBlock := by rw [HL1.out]; exact g8
              have n1 : GMades (w6.alloc (.cells #[.slice A6 ln c6] 22)) w.heap.size (T ++ [⟨A6, c6, l'⟩]) := ((hr.out.2.2.1.kept H6.out.2.2.2.2 (Nat.le_refl _)).kept (below_new w6 _) (Nat.le_refl _)).snoc ((H6.out.2.2.2.1.alloc _).mono W6) ((H6.out.2.2.1.kept (below_new w6 _) (Nat.le_refl _)).mono W6)
              exact Lib.hid ⟨r8, n1.besideG hGr g9, ((hr.out.2.2.2.2.trans (H6.out.2.2.2.2.mono W6)).alloc (by have := H6.out.2.2.2.2.size; omega) _).trans b8⟩); clear r8 b8 g8))
      go_wp2_with fail
      go_roundw
      case rel => exact ⟨k + 1, A8, c8, T ++ [⟨A6, c6, l'⟩], by omega, by go_num, rfl, Lib.hid ⟨by rw [List.length_append, HL1.out]; rfl, by rw [fl_append, hr.out.2.1, List.take_add_one, HFL.out, ← H6.out.2.1]; rfl, H8.out.2.1, H8.out.1, H8.out.2.2⟩⟩
      case measure => simp [intOf]; omega
    · obtain rfl : k = n := by omega
      have HFF : Hid (fl T = fl Ls) := Lib.hid (by have := hr.out.2.1; rwa [List.take_of_length_le (by rw [fl_length]; have := HN.out; omega)] at this)
      go_wp2_with fail
      go_ret
      exact ⟨T, A2, c2, rfl, hr.out.1, HFF.out, hr.out.2.2.1, hr.out.2.2.2.1, hr.out.2.2.2.2⟩
/-- Bytes that may be marked, in blocks of Z. -/
def SpotZ (Z : Nat → Prop) (w : World) (A : Option Addr) (z : Nat) : Prop := z = 0 ∨ ∃ g cur, A = some ⟨g, 0, none⟩ ∧ Z g ∧ w.heap[g]? = some (.cells cur 5 (0, 0)) ∧ z ≤ cur.size ∧ ∀ j, j < z → ∃ x, cur[j]? = some (.int .u8 x)
theorem SpotZ.set {Z : Nat → Prop} {w : World} {A : Option Addr} {z g k : Nat} {y : Int} {cur : Array Value} (h : SpotZ Z w A z) (_hg : w.heap[g]? = some (.cells cur 5 (0, 0))) : SpotZ Z (w.setCell ⟨g, k, none⟩ (.int .u8 y)) A z := by
  rcases h with h | ⟨g', cur', e, h1, h3, h4, h5⟩
  · exact .inl h
  · by_cases hgg : g' = g
    · subst hgg
      refine .inr ⟨g', cur'.setIfInBounds k (.int .u8 y), e, h1, ?_, by simpa using h4, fun j hj => ?_⟩
      · simp [World.setCell, Array.getElem?_modify, h3]
      · obtain ⟨x, hx⟩ := h5 j hj
        by_cases hjk : k = j
        · subst hjk
          exact ⟨y, by rw [Array.getElem?_setIfInBounds_self_of_lt (by omega)]⟩
        · exact ⟨x, by rw [Array.getElem?_setIfInBounds_ne hjk, hx]⟩
    · refine .inr ⟨g', cur', e, h1, ?_, h4, h5⟩
      rw [Below.heap_setCell w ⟨g, k, none⟩ _ g' hgg, h3]
/-- While bytes are marked: all that may be marked still may, all else is as it was. -/
structure Mz (Z : Nat → Prop) (w0 w : World) : Prop where
  spots : ∀ A z, SpotZ Z w0 A z → SpotZ Z w A z
  kp : Kp (fun b => ¬ Z b) w0 w
theorem Mz.refl (Z : Nat → Prop) (w : World) : Mz Z w w := ⟨fun _ _ h => h, Kp.refl _ _⟩
theorem Mz.trans {Z : Nat → Prop} {w0 w1 w2 : World} (h : Mz Z w0 w1) (k : Mz Z w1 w2) : Mz Z w0 w2 :=
  ⟨fun A z q => k.spots A z (h.spots A z q), ⟨k.kp.os.trans h.kp.os, k.kp.tape.trans h.kp.tape, k.kp.output.trans h.kp.output, Nat.le_trans h.kp.size k.kp.size, fun g hg => (k.kp.block g hg).trans (h.kp.block g hg)⟩⟩
end Go.Proofs.Ytkodhlaojlgejaa
namespace Go.Proofs.Ytkodhlaojlgejaa
open Go.RowKit
set_option maxRecDepth 100000 in
set_option maxHeartbeats 4000000 in
theorem refSameP_any (A A' : Option Addr) (l l' : List Bp) (n n' c c' : Nat) (w : World) (hn : l.length = n) (hn' : l'.length = n') (h : Lies w A (pvals l)) (h' : Lies w A' (pvals l')) (hi : Ins w l) (hi' : Ins w l') (hl : n * 48 ≤ 140737488351232) (hl' : n' * 48 ≤ 140737488351232) :
    Calls Try.prog 28 #[.slice A n c, .slice A' n' c'] w fun e w' => e = .returned (.bool (decide (rds l = rds l'))) ∧ ∃ k, w' = w.drewN k := by
  obtain ⟨b, hb⟩ : ∃ b, decide (rds l = rds l') = b := ⟨_, rfl⟩
  rw [hb]
  have HB := Lib.hid hb
  have HP := Lib.hid (And.intro h h')
  have HI := Lib.hid (And.intro hi hi')
  have HN := Lib.hid (And.intro hn hn')
  clear h h' hi hi' hb hn hn'
  by_cases hnn : n = n'
  · subst hnn
    go_enter Try.func28, Try.ntmps28
    go_wp2_with fail
    go_loopw [13] (fun t13 wr => ∃ k x : Nat, k ≤ n ∧ t13 = .int .i64 k ∧ wr = w.drewN x ∧ Hid ((rds l).take k = (rds l').take k)) (fun t13 _ => n - (intOf t13).toNat)
    case atStart => exact ⟨0, 0, by omega, rfl, rfl, Lib.hid rfl⟩
    case round =>
      obtain ⟨k, dr, hk, rfl, rfl, hr⟩ := hrel
      by_cases hlt : k < n
      · have hq := List.getElem?_eq_getElem (l := l) (i := k) (by have := HN.out.1; omega)
        generalize l[k]'(by have := HN.out.1; omega) = x at hq
        have hq' := List.getElem?_eq_getElem (l := l') (i := k) (by have := HN.out.2; omega)
        generalize l'[k]'(by have := HN.out.2; omega) = y at hq'
        obtain ⟨ad, rfl, a0, a1⟩ := lies_pair HP.out.1 hq
        obtain ⟨ad', rfl, b0, b1⟩ := lies_pair HP.out.2 hq'
        obtain ⟨X1, X2⟩ := HI.out.1 x (List.mem_of_getElem? hq)
        obtain ⟨Y1, Y2⟩ := HI.out.2 y (List.mem_of_getElem? hq')
        have HQ := Lib.hid (And.intro (rds_get hq) (rds_get hq'))
        clear hq hq'
        obtain ⟨⟨xka, xkc, xk⟩, ⟨xva, xvc, xv⟩⟩ := x
        obtain ⟨⟨yka, ykc, yk⟩, ⟨yva, yvc, yv⟩⟩ := y
        simp only at a0 a1 b0 b1 X1 X2 Y1 Y2
        have C0 := conv_drew X1.bys xk.length xkc rfl
        have C1 := conv_drew Y1.bys yk.length ykc rfl
        have C2 := conv_drew X2.bys xv.length xvc rfl
        have C3 := conv_drew Y2.bys yv.length yvc rfl
        have HS := Lib.hid (str_of_inj X1.byt Y1.byt)
        have HT := Lib.hid (str_of_inj X2.byt Y2.byt)
        clear X1 X2 Y1 Y2
        obtain ⟨m, hm⟩ : ∃ m, xk.length = m := ⟨_, rfl⟩
        obtain ⟨m', hm'⟩ : ∃ m, yk.length = m := ⟨_, rfl⟩
        obtain ⟨z, hz⟩ : ∃ m, xv.length = m := ⟨_, rfl⟩
        obtain ⟨z', hz'⟩ : ∃ m, yv.length = m := ⟨_, rfl⟩
        rw [hm] at a0 C0
        rw [hm'] at b0 C1
        rw [hz] at a1 C2
        rw [hz'] at b1 C3
        clear hm hm' hz hz'
        by_cases e1 : xk = yk
        · subst e1
          by_cases e2 : xv = yv
          · subst e2
            have HR := Lib.hid (rd_same HQ.out.1 HQ.out.2 rfl hr.out)
            go_upto_region 6 with fail
            go_quiet (fail)
            go_wp2_with fail
            go_roundw
            case rel => exact ⟨k + 1, _, by omega, by go_num, rfl, HR⟩
            case measure => simp [intOf]; omega
          · have d2 : ((strOfNums xv).toList == (strOfNums yv).toList) = false := toList_ne (fun e => e2 (HT.out.1 e))
            have HV : Hid (b = false) := Lib.hid (by rw [← HB.out]; exact rd_differ HQ.out.1 HQ.out.2 (fun e => e2 (congrArg (fun p => p.2) e)))
            clear e2
            go_upto_region 6 with fail
            go_quiet (fail)
            go_wp2_with fail
            go_ret
            rw [HV.out]
            exact ⟨rfl, _, by first | rfl | exact drew2 _ _ _⟩
        · have d1 : ((strOfNums xk).toList == (strOfNums yk).toList) = false := toList_ne (fun e => e1 (HS.out.1 e))
          have HV : Hid (b = false) := Lib.hid (by rw [← HB.out]; exact rd_differ HQ.out.1 HQ.out.2 (fun e => e1 (congrArg (fun p => p.1) e)))
          clear e1
          go_upto_region 6 with fail
          go_quiet (fail)
          go_wp2_with fail
          go_ret
          rw [HV.out]
          exact ⟨rfl, _, by first | rfl | exact drew2 _ _ _⟩
      · obtain rfl : k = n := by omega
        have hr' := hr.out
        rw [List.take_of_length_le (by rw [rds_len]; have := HN.out.1; omega), List.take_of_length_le (by rw [rds_len]; have := HN.out.2; omega)] at hr'
        have HV : Hid (b = true) := Lib.hid (by rw [← HB.out]; simpa using hr')
        clear hr' hr
        go_wp2_with fail
        go_ret
        rw [HV.out]
        exact ⟨rfl, _, rfl⟩
  · have d0 : ((n : Int) != n') = true := by simp; omega
    have HV : Hid (b = false) := Lib.hid (by rw [← HB.out]; simp; intro e; have := congrArg List.length e; rw [rds_len, rds_len] at this; have := HN.out; omega)
    go_enter Try.func28, Try.ntmps28
    go_wp2_with fail
    go_ret
    rw [HV.out]
    exact ⟨rfl, 0, rfl⟩
end Go.Proofs.Ytkodhlaojlgejaa
namespace Go.Proofs.Ytkodhlaojlgejaa
open Go.RowKit
def FitE (x : Er) : Prop := -9223372036854775808 ≤ x.2.1 ∧ x.2.1 ≤ 9223372036854775807
/-- Entries that come in. -/
structure EF (w : World) (A : Option Addr) (l : List En) (n c : Nat) : Prop where
  len : l.length = n
  lies : Lies w A (evals l)
  ins : EIns w l
  few : n * 64 ≤ 140737488351232
  fit : ∀ x ∈ ers l, FitE x
  long : ∀ x ∈ ers l, x.1.length ≤ 140737488351232 ∧ x.2.2.2.length ≤ 140737488351232
theorem EF.kept {w w' : World} {A : Option Addr} {l : List En} {n c : Nat} (h : EF w A l n c) (hb : Below w.heap.size w w') : EF w' A l n c := ⟨h.len, h.lies.kept hb, h.ins.kept hb, h.few, h.fit, h.long⟩
theorem EF.fits {w : World} {A : Option Addr} {l : List En} {n c : Nat} (h : EF w A l n c) : ∀ q ∈ l, EFit q := fun q hq => h.fit q.rd (List.mem_map_of_mem hq)
theorem EF.longs {w : World} {A : Option Addr} {l : List En} {n c : Nat} (h : EF w A l n c) : ∀ q ∈ l, q.k.l.length ≤ 140737488351232 ∧ q.v.l.length ≤ 140737488351232 := fun q hq => h.long q.rd (List.mem_map_of_mem hq)
theorem EF.more {w w' : World} {A A' : Option Addr} {l l' : List En} {n c n' c' : Nat} (h : EF w A l n c) (hs : ∀ x ∈ ers l', x ∈ ers l) (hn : l'.length = n') (hle : n' ≤ n) (hl : Lies w' A' (evals l')) (hm : EIns w' l') : EF w' A' l' n' c' :=
  ⟨hn, hl, hm, Nat.le_trans (Nat.mul_le_mul_right _ hle) h.few, fun x hx => h.fit x (hs x hx), fun x hx => h.long x (hs x hx)⟩
theorem EF.copy {w w1 w' : World} {A : Option Addr} {l : List En} {n c : Nat} (h : EF w A l n c) {e : Ending} (hc : ECopied w1 l e w') : ∃ (l' : List En) (A' : Option Addr) (c' : Nat), ers l' = ers l ∧ e = .returned (.slice A' n c') ∧ EF w' A' l' n c' ∧ EMades w' w1.heap.size l' ∧ Erow w' w1.heap.size A' c' l' ∧ Below w1.heap.size w1 w' := by
  obtain ⟨l', A', c', h1, h2, h3, h4, h5⟩ := hc
  have hl : l'.length = n := by rw [← ers_len, h1, ers_len, h.len]
  exact ⟨l', A', c', h1, by rw [h2, hl], h.more (fun x hx => by rw [← h1]; exact hx) hl (Nat.le_refl _) h4.lies (h3.ins (by rw [h1]; exact h.ins.byt)), h3, h4, h5⟩
theorem copy_ef {w : World} {A : Option Addr} {l : List En} {n c : Nat} (h : EF w A l n c) : Calls Try.prog 19 #[.slice A n c] w (ECopied w l) :=
  refCopy_any A l n c w h.len h.lies h.ins h.few h.longs
theorem visible_ef {w : World} {A : Option Addr} {l : List En} {n c : Nat} (s : Int) (h : EF w A l n c) : Calls Try.prog 26 #[.slice A n c, .int .i64 s] w (PMade (decide (OrdL (ers l))) (visE s (ers l)) w) :=
  visible_any A l n c s w h.len h.lies h.ins h.fits h.few (fun q hq => by have := h.longs q hq; omega)
theorem refVisible_ef {w : World} {A : Option Addr} {l : List En} {n c : Nat} (s : Int) (h : EF w A l n c) : Calls Try.prog 27 #[.slice A n c, .int .i64 s] w (PPick (decide (OrdL (ers l))) (visE s (ers l)) l w) :=
  refVisible_any A l n c s w h.len h.lies h.ins h.few (fun q hq => by have := (h.longs q hq).1; omega)
theorem thin_ef {w : World} {A : Option Addr} {l : List En} {n c : Nat} (s : Int) (b : Bool) (h : EF w A l n c) : Calls Try.prog 29 #[.slice A n c, .int .i64 s, .bool b] w (EMade (decide (OrdL (ers l))) (thinE s b (ers l)) w) :=
  thin_any A l n c s b w h.len h.lies h.ins h.fits h.few (fun q hq => by have := h.longs q hq; omega)
theorem refThin_ef {w : World} {A : Option Addr} {l : List En} {n c : Nat} (s : Int) (b : Bool) (h : EF w A l n c) : Calls Try.prog 30 #[.slice A n c, .int .i64 s, .bool b] w (EPick (decide (OrdL (ers l))) (thinE s b (ers l)) l w) :=
  refThin_any A l n c s b w h.len h.lies h.ins h.few (fun q hq => by have := (h.longs q hq).1; omega)
theorem refOrdered_ef {w : World} {A : Option Addr} {l : List En} {n c : Nat} (h : EF w A l n c) : Calls Try.prog 31 #[.slice A n c] w fun e w' => e = .returned (.bool (decide (OrdL (ers l)))) ∧ Below w.heap.size w w' :=
  refOrdered_any A l n c w h.len h.lies h.ins (by have := h.few; omega) (fun q hq => by have := (h.longs q hq).1; omega)
/-- Lists that come in. -/
structure LF (w : World) (A : Option Addr) (Ls : List Gl) (n c : Nat) : Prop where
  ls : LsIn w A Ls n c
  few : n * 24 ≤ 140737488351232
  tot : (flat Ls).length * 64 ≤ 140737488351232
  fit : ∀ x ∈ flat Ls, FitE x
  long : ∀ x ∈ flat Ls, x.1.length ≤ 140737488351232 ∧ x.2.2.2.length ≤ 140737488351232
theorem LF.kept {w w' : World} {A : Option Addr} {Ls : List Gl} {n c : Nat} (h : LF w A Ls n c) (hb : Below w.heap.size w w') : LF w' A Ls n c :=
  ⟨⟨h.ls.len, h.ls.lies.kept hb, fun g hg => by have := h.ls.each g hg; exact ⟨this.1.kept hb, this.2.1.kept hb, this.2.2⟩⟩, h.few, h.tot, h.fit, h.long⟩
theorem in_flat {Ls : List Gl} {g : Gl} {q : En} (hg : g ∈ Ls) (hq : q ∈ g.l) : q.rd ∈ flat Ls := by
  rw [← flatE_ers]
  exact List.mem_map_of_mem (List.mem_flatten.2 ⟨g.l, List.mem_map_of_mem hg, hq⟩)
theorem len_flat {Ls : List Gl} {g : Gl} (hg : g ∈ Ls) : g.l.length ≤ (flat Ls).length := by
  rw [← flat_fl, ← ers_len]
  exact (List.sublist_flatten_of_mem (List.mem_map_of_mem (f := fun g : Gl => ers g.l) hg)).length_le
theorem LF.each {w : World} {A : Option Addr} {Ls : List Gl} {n c : Nat} (h : LF w A Ls n c) {g : Gl} (hg : g ∈ Ls) : EF w g.a g.l g.l.length g.c := by
  have h1 := h.ls.each g hg
  have h2 := len_flat hg
  have h3 := h.tot
  refine ⟨rfl, h1.1, h1.2.1, by omega, fun x hx => ?_, fun x hx => ?_⟩
  · obtain ⟨q, hq, rfl⟩ := List.mem_map.1 hx
    exact h.fit _ (in_flat hg hq)
  · obtain ⟨q, hq, rfl⟩ := List.mem_map.1 hx
    exact h.long _ (in_flat hg hq)
theorem merge_lf {w : World} {A : Option Addr} {Ls : List Gl} {n c : Nat} (h : LF w A Ls n c) : Calls Try.prog 23 #[.slice A n c] w (Mgd Ls w) :=
  merge_any A Ls n c w h.ls (fun _ hg => ⟨(h.each hg).fits, (h.each hg).few⟩) (fun x hx => by have := h.long x hx; omega) h.few h.tot
theorem refMerge_lf {w : World} {A : Option Addr} {Ls : List Gl} {n c : Nat} (h : LF w A Ls n c) : Calls Try.prog 25 #[.slice A n c] w (RMgd Ls w) :=
  refMerge_any A Ls n c w h.ls (fun x hx => by have := h.long x hx; omega) (fun _ hg => (h.each hg).few) h.few h.tot
/-- Lists that a call has made. -/
theorem LF.made {w w' : World} {A A' : Option Addr} {Ls T : List Gl} {n c n' c' B : Nat} (h : LF w A Ls n c) (hf : (flat T).Sublist (flat Ls) ∨ (flat T).Perm (flat Ls)) (hn : T.length = n') (hle : n' * 24 ≤ 140737488351232) (hl : Lies w' A' (gvals T)) (hm : GMades w' B T) : LF w' A' T n' c' := by
  have hsub : ∀ x ∈ flat T, x ∈ flat Ls := fun x hx => hf.elim (fun h => h.subset hx) (fun h => h.mem_iff.1 hx)
  have hlen : (flat T).length ≤ (flat Ls).length := hf.elim (fun h => h.length_le) (fun h => by rw [h.length_eq]; exact Nat.le_refl _)
  have hbyt : ∀ x ∈ flat Ls, ErB x := fun x hx => by
    rw [← flat_fl] at hx
    obtain ⟨l, hl, hx⟩ := List.mem_flatten.1 hx
    obtain ⟨g, hg, rfl⟩ := List.mem_map.1 hl
    exact (h.ls.each g hg).2.1.byt x hx
  refine ⟨⟨hn, hl, fun g hg => ?_⟩, hle, by have := h.tot; omega, fun x hx => h.fit x (hsub x hx), fun x hx => h.long x (hsub x hx)⟩
  obtain ⟨h1, h2⟩ := hm g hg
  have hc := own_cap h1
  exact ⟨h1.lies, h2.ins (fun p hp => by
    obtain ⟨q, hq, rfl⟩ := List.mem_map.1 hp
    exact hbyt _ (hsub _ (in_flat hg hq))), hc.1, hc.2⟩
/-- What is answered of lists: it is this, and nothing else. -/
def AnsM (F : List (List Er)) (er : Int) (R : List Er) : Prop := (er = 30 ∧ R = [] ∧ ¬ ∀ l ∈ F, OrdL l) ∨ ((∀ l ∈ F, OrdL l) ∧ ((er = 0 ∧ OrdL R ∧ R.Perm F.flatten) ∨ (er = 31 ∧ R = [] ∧ ¬ Apt F.flatten)))
theorem all_fl {Ls : List Gl} : (∀ g ∈ Ls, OrdL (ers g.l)) ↔ ∀ l ∈ fl Ls, OrdL l := by
  unfold fl
  simp
theorem ansM_of {Ls : List Gl} {M : List En} {er : Int} (h : (er = 30 ∧ M = [] ∧ ¬ ∀ g ∈ Ls, OrdL (ers g.l)) ∨ ((∀ g ∈ Ls, OrdL (ers g.l)) ∧ ((er = 0 ∧ OrdL (ers M) ∧ (ers M).Perm (flat Ls)) ∨ (er = 31 ∧ M = [] ∧ ¬ Apt (flat Ls))))) : AnsM (fl Ls) er (ers M) := by
  unfold AnsM
  rw [flat_fl, ← all_fl]
  rcases h with ⟨h1, h2, h3⟩ | ⟨h0, h | ⟨h1, h2, h3⟩⟩
  · exact .inl ⟨h1, by rw [h2]; rfl, h3⟩
  · exact .inr ⟨h0, .inl h⟩
  · exact .inr ⟨h0, .inr ⟨h1, by rw [h2]; rfl, h3⟩⟩
theorem pw_le {L : List Er} (h : OrdL L) : List.Pairwise leE L := (OrdL.pw.1 h).2.imp (fun h => by unfold leE; omega)
theorem AnsM.one {F : List (List Er)} {e1 e2 : Int} {R1 R2 : List Er} (h : AnsM F e1 R1) (k : AnsM F e2 R2) : e1 = e2 ∧ R1 = R2 := by
  rcases h with ⟨a1, a2, a3⟩ | ⟨a0, ⟨a1, a2, a3⟩ | ⟨a1, a2, a3⟩⟩ <;> rcases k with ⟨b1, b2, b3⟩ | ⟨b0, ⟨b1, b2, b3⟩ | ⟨b1, b2, b3⟩⟩
  · exact ⟨a1.trans b1.symm, a2.trans b2.symm⟩
  · exact absurd b0 a3
  · exact absurd b0 a3
  · exact absurd a0 b3
  · exact ⟨a1.trans b1.symm, sorted_one (OrdL.pw.1 a2).2 (pw_le b2) (a3.trans b3.symm)⟩
  · exact absurd ((apt_perm a3).1 (ordL_apt a2)) b3
  · exact absurd a0 b3
  · exact absurd ((apt_perm b3).1 (ordL_apt b2)) a3
  · exact ⟨a1.trans b1.symm, a2.trans b2.symm⟩
theorem AnsM.ok {F : List (List Er)} {R : List Er} (h : AnsM F 0 R) : (∀ l ∈ F, OrdL l) ∧ OrdL R ∧ R.Perm F.flatten := by
  rcases h with ⟨h, -⟩ | ⟨h0, ⟨-, h1⟩ | ⟨h, -⟩⟩
  · cases h
  · exact ⟨h0, h1⟩
  · cases h
theorem AnsM.no {F : List (List Er)} {er : Int} {R : List Er} (h : AnsM F er R) (h0 : er ≠ 0) : R = [] := by
  rcases h with ⟨_, h, _⟩ | ⟨_, ⟨h, _⟩ | ⟨_, h, _⟩⟩
  · exact h
  · exact absurd h h0
  · exact h
/-- Of entries that may be made one all that is picked may be. -/
theorem AnsM.part {F G : List (List Er)} {R S : List Er} {er : Int} (h : AnsM F 0 R) (hs : ∀ l ∈ G, OrdL l) (ha : ∃ H, (G.flatten ++ H).Perm F.flatten) (k : AnsM G er S) : er = 0 := by
  obtain ⟨_, h2, h3⟩ := h.ok
  obtain ⟨H, hH⟩ := ha
  have ap : Apt G.flatten := (List.pairwise_append.1 ((apt_perm (h3.trans hH.symm)).1 (ordL_apt h2))).1
  rcases k with ⟨_, _, k⟩ | ⟨_, ⟨k, _⟩ | ⟨_, _, k⟩⟩
  · exact absurd hs k
  · exact k
  · exact absurd ap k
theorem AnsM.turn {F G : List (List Er)} {R S : List Er} {er : Int} (h : AnsM F 0 R) (hp : G.Perm F) (k : AnsM G er S) : er = 0 ∧ S = R := by
  have e : er = 0 := h.part (fun l hl => h.ok.1 l (hp.mem_iff.1 hl)) ⟨[], by simpa using hp.flatten⟩ k
  subst e
  exact ⟨rfl, (sorted_one (OrdL.pw.1 k.ok.2.1).2 (pw_le h.ok.2.1) ((k.ok.2.2.trans hp.flatten).trans h.ok.2.2.symm))⟩
end Go.Proofs.Ytkodhlaojlgejaa
namespace Go.Proofs.Ytkodhlaojlgejaa
open Go.ChangeShapes Go.WideShapes Go.ChangeAt Go.RowKit
theorem cells22 : Try.prog.cellsOf 22 = 1 := by kernel_rfl
/-- What entries weigh. -/
def wE (q : En) : Nat := q.k.l.length + q.v.l.length + 4
theorem sum_mem {α : Type} (f : α → Nat) : ∀ {l : List α} {x : α}, x ∈ l → f x ≤ (l.map f).sum
  | [], _, h => by cases h
  | y :: l, x, h => by
    rw [List.map_cons, List.sum_cons]
    rcases List.mem_cons.1 h with e | e
    · subst e; omega
    · have := sum_mem f e; omega
/-- Lists that come in, of a told bulk. -/
structure LUp (w : World) (A : Option Addr) (Ls : List Gl) (n c : Nat) : Prop where
  lf : LF w A Ls n c
  cap : n ≤ c
  top : (c : Int) ≤ 9223372036854775807
section
variable {H : Type} {enc : TypeId × Value → H} {W : World} {fuel : Nat} {cs : List Value} {x : DataW H × List MemPlace}
theorem open_ef (h : DataW.trod enc Try.prog W 0 (fun _ => true) true fuel 22 cs = some x) (hsz : ∀ n ∈ x.1.weights Try.prog 22, n ≤ reachBytes) (A : Option Addr) (n c : Nat) (hcs : cs = [.slice A n c]) : ∃ l, EF W A l n c := by
  obtain ⟨l, h1, -, h2, ds, h3, h4, h5, h6⟩ := open_rows (α := En) En.cells 4 (fun _ => rfl) (by omega) cells26 Try.underlying22 h A n c hcs (fun q _ => (In W q.k.a q.k.l q.k.l.length q.k.c ∧ In W q.v.a q.v.l q.v.l.length q.v.c) ∧ EFit q ∧ q.k.l.length ≤ 140737488351232 ∧ q.v.l.length ≤ 140737488351232) (fun m cs' y hy _ hw => by
    obtain ⟨q, e1, e2, e3, _, e5⟩ := open_entry hy
    exact ⟨q, e1, e2, e3, e5 (fun z hz => hsz z (hw z hz))⟩)
  have hall : ∀ q ∈ l, (In W q.k.a q.k.l q.k.l.length q.k.c ∧ In W q.v.a q.v.l q.v.l.length q.v.c) ∧ EFit q ∧ q.k.l.length ≤ 140737488351232 ∧ q.v.l.length ≤ 140737488351232 := fun q hq => by
    obtain ⟨i, hi, e⟩ := List.mem_iff_getElem.1 hq
    exact h4 i q (ds[i]'(by omega)) (by rw [List.getElem?_eq_getElem hi, e]) (List.getElem?_eq_getElem (by omega))
  have h7 := h6 hsz
  rw [bytesEntry] at h7
  refine ⟨l, h1, h2, fun q hq => (hall q hq).1, h7, fun z hz => ?_, fun z hz => ?_⟩
  · obtain ⟨q, hq, rfl⟩ := List.mem_map.1 hz
    exact (hall q hq).2.1
  · obtain ⟨q, hq, rfl⟩ := List.mem_map.1 hz
    exact (hall q hq).2.2
/-- One list, of a told bulk. -/
theorem open_one_up (h : DataW.trod enc Try.prog W 0 (fun _ => true) true fuel 22 cs = some x) : ∃ g : Gl, cs = [g.val] ∧ (Lies W g.a (evals g.l) ∧ EIns W g.l ∧ g.l.length ≤ g.c ∧ (g.c : Int) ≤ 9223372036854775807) ∧ (∀ q ∈ g.l, EFit q) ∧ (g.l.map wE).sum + g.l.length + 1 ≤ Rows.uptoBulk x.1 := by
  obtain ⟨A, n, c, hcs⟩ : ∃ A n c, cs = [.slice A n c] := by
    rcases Go.Deep.open_slice Try.underlying22 h with ⟨h1, -⟩ | ⟨a, len, cap, m, fu, D, Pl, h1, -⟩
    · exact ⟨none, 0, 0, h1⟩
    · exact ⟨some a, len, cap, h1⟩
  obtain ⟨l, h1, h0, h2, ds, h3, h4, h5, -⟩ := open_rows (α := En) En.cells 4 (fun _ => rfl) (by omega) cells26 Try.underlying22 h A n c hcs (fun q d => (In W q.k.a q.k.l q.k.l.length q.k.c ∧ In W q.v.a q.v.l q.v.l.length q.v.c) ∧ EFit q ∧ wE q + 1 ≤ Rows.uptoBulk d) (fun m cs' y hy _ _ => by
    obtain ⟨q, e1, e2, e3, e4, _⟩ := open_entry hy
    exact ⟨q, e1, e2, e3, by unfold wE; omega⟩)
  have hall : ∀ q ∈ l, (In W q.k.a q.k.l q.k.l.length q.k.c ∧ In W q.v.a q.v.l q.v.l.length q.v.c) ∧ EFit q := fun q hq => by
    obtain ⟨i, hi, e⟩ := List.mem_iff_getElem.1 hq
    have := h4 i q (ds[i]'(by omega)) (by rw [List.getElem?_eq_getElem hi, e]) (List.getElem?_eq_getElem (by omega))
    exact ⟨this.1, this.2.1⟩
  have hs := bulk_add wE l ds h3 (fun i q d a1 a2 => (h4 i q d a1 a2).2.2)
  exact ⟨⟨A, c, l⟩, by rw [hcs]; unfold Gl.val; rw [h1], ⟨h2, fun q hq => (hall q hq).1, by rw [h1]; exact h0.1, h0.2⟩, fun q hq => (hall q hq).2, by show (l.map wE).sum + l.length + 1 ≤ _; omega⟩
theorem open_lists_up (h : DataW.trod enc Try.prog W 0 (fun _ => true) true fuel 42 cs = some x) (hb : Rows.uptoBulk x.1 ≤ 1048576) (A : Option Addr) (n c : Nat) (hcs : cs = [.slice A n c]) : ∃ l, LUp W A l n c := by
  obtain ⟨l, h1, h0, h2, ds, h3, h4, h5, -⟩ := open_rows (α := Gl) (fun g => [g.val]) 1 (fun _ => rfl) (by omega) cells22 Try.underlying42 h A n c hcs (fun g d => (Lies W g.a (evals g.l) ∧ EIns W g.l ∧ g.l.length ≤ g.c ∧ (g.c : Int) ≤ 9223372036854775807) ∧ (∀ q ∈ g.l, EFit q) ∧ (g.l.map wE).sum + g.l.length + 1 ≤ Rows.uptoBulk d) (fun m cs' y hy _ _ => by
    obtain ⟨g, e1, e2, e3, e4⟩ := open_one_up hy
    exact ⟨g, e1, e2, e3, e4⟩)
  have hall : ∀ g ∈ l, (Lies W g.a (evals g.l) ∧ EIns W g.l ∧ g.l.length ≤ g.c ∧ (g.c : Int) ≤ 9223372036854775807) ∧ (∀ q ∈ g.l, EFit q) := fun q hq => by
    obtain ⟨i, hi, e⟩ := List.mem_iff_getElem.1 hq
    have := h4 i q (ds[i]'(by omega)) (by rw [List.getElem?_eq_getElem hi, e]) (List.getElem?_eq_getElem (by omega))
    exact ⟨this.1, this.2.1⟩
  have hs := bulk_add (fun g : Gl => (g.l.map wE).sum + g.l.length) l ds h3 (fun i g d a1 a2 => (h4 i g d a1 a2).2.2)
  have hg : ∀ g ∈ l, (g.l.map wE).sum + g.l.length ≤ 1048576 := fun g hg => by
    have := sum_mem (fun g : Gl => (g.l.map wE).sum + g.l.length) hg
    omega
  have hfl : (flat l).length ≤ (l.map (fun g : Gl => (g.l.map wE).sum + g.l.length)).sum := by
    rw [← flat_fl, fl_len]
    clear h1 h2 h3 h4 hall hs hg
    induction l with
    | nil => simp
    | cons g l ih => rw [List.map_cons, List.map_cons, List.sum_cons, List.sum_cons]; omega
  have hq : ∀ z ∈ flat l, FitE z ∧ z.1.length ≤ 1048576 ∧ z.2.2.2.length ≤ 1048576 := fun z hz => by
    rw [← flatE_ers] at hz
    obtain ⟨q, hq, rfl⟩ := List.mem_map.1 hz
    obtain ⟨g, hgm, hqg⟩ := flatE_mem hq
    have h8 := hg g hgm
    have h9 := sum_mem wE hqg
    have e1 : wE q = q.k.l.length + q.v.l.length + 4 := rfl
    have e2 : q.rd.1 = q.k.l := rfl
    have e3 : q.rd.2.2.2 = q.v.l := rfl
    refine ⟨(hall g hgm).2 q hqg, by rw [e2]; omega, by rw [e3]; omega⟩
  have hlies : Lies W A (gvals l) := by
    have : l.flatMap (fun g => [g.val]) = gvals l := by
      clear h1 h2 h3 h4 hall hs hg hfl hq
      induction l with
      | nil => rfl
      | cons g l ih => rw [List.flatMap_cons, ih]; rfl
    rwa [this] at h2
  exact ⟨l, ⟨⟨h1, hlies, fun g hgm => (hall g hgm).1⟩, by omega, by omega, fun z hz => (hq z hz).1, fun z hz => by have := hq z hz; omega⟩, h0.1, h0.2⟩
end
end Go.Proofs.Ytkodhlaojlgejaa
