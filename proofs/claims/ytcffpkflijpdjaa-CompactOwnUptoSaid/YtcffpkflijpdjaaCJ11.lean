/-
  Walks: lists of entries in order, made one, by the document. Walks: lists copied, and bytes marked, by the law. What comes in, as the laws hold it; and what is answered, in plain terms. Walks: the law's first look. The laws: what is seen of any list; what is forgotten; any lists are merged. Plain: entries cut in pieces. Walks: a row of entries cloned; a part of a row.
-/
import Derived.Lib.SlBytesConst
import Derived.Test.YtcffpkflijpdjaaCJ01
import Derived.Test.YtcffpkflijpdjaaCJ09
import Derived.Test.YtcffpkflijpdjaaCJ10
set_option linter.unusedSimpArgs false
set_option linter.unusedVariables false
namespace Go.Proofs.Ytcffpkflijpdjaa
open Go.RowKit
/-- All entries of lists, as they lie. -/
def flatE (Ls : List Gl) : List En := (gets Ls).flatten
theorem flatE_ers (Ls : List Gl) : ers (flatE Ls) = flat Ls := by
  unfold flatE flat ers
  induction gets Ls with
  | nil => rfl
  | cons a l ih => simp [ih]
theorem flatE_take {Ls : List Gl} {k : Nat} {g : Gl} (h : Ls[k]? = some g) : flatE (Ls.take (k + 1)) = flatE (Ls.take k) ++ g.l := by
  unfold flatE gets
  rw [List.take_add_one, h]
  simp
theorem flat_len_take (Ls : List Gl) (k : Nat) : (flatE (Ls.take k)).length ≤ (flat Ls).length := by
  have e : flatE Ls = flatE (Ls.take k) ++ flatE (Ls.drop k) := by
    unfold flatE gets
    rw [← List.flatten_append, ← List.map_append, List.take_append_drop]
  have h2 : (flatE Ls).length = (flat Ls).length := by rw [← flatE_ers, ers_len]
  rw [e, List.length_append] at h2
  omega
theorem flatE_mem {Ls : List Gl} {q : En} (h : q ∈ flatE Ls) : ∃ g ∈ Ls, q ∈ g.l := by
  unfold flatE gets at h
  obtain ⟨l, hl, hq⟩ := List.mem_flatten.1 h
  obtain ⟨g, hg, rfl⟩ := List.mem_map.1 hl
  exact ⟨g, hg, hq⟩
/-- Sorted, and no two that are neighbours at one place: in order. -/
def NoTwo (L : List Er) (i : Nat) : Prop := ∀ j x y, j + 1 < i → L[j]? = some x → L[j + 1]? = some y → ordE x y ≠ 0
theorem noTwo_strict : ∀ {L : List Er}, List.Pairwise leE L → NoTwo L L.length → List.Pairwise (fun x y => ordE x y < 0) L
  | [], _, _ => List.Pairwise.nil
  | [x], _, _ => List.pairwise_singleton _ _
  | x :: y :: L, h, hn => by
    obtain ⟨h1, h2⟩ := List.pairwise_cons.1 h
    have ih := noTwo_strict (L := y :: L) h2 (fun j a b hj ha hb => hn (j + 1) a b (by simp at hj ⊢; omega) (by simpa using ha) (by simpa using hb))
    have hxy : ordE x y < 0 := by
      have a := h1 y (List.mem_cons_self ..)
      have b := hn 0 x y (by simp) rfl rfl
      unfold leE at a
      omega
    refine List.pairwise_cons.2 ⟨fun z hz => ?_, ih⟩
    rcases List.mem_cons.1 hz with e | e
    · rw [e]; exact hxy
    · exact ordE_trans hxy ((List.pairwise_cons.1 ih).1 z e)
theorem two_not_apt {L : List Er} {j : Nat} {x y : Er} (hx : L[j]? = some x) (hy : L[j + 1]? = some y) (h : ordE x y = 0) : ¬ Apt L := fun ha => by
  have h1 := (List.getElem?_eq_some_iff.1 hx).1
  have h2 := (List.getElem?_eq_some_iff.1 hy).1
  have := List.pairwise_iff_getElem.1 ha j (j + 1) h1 h2 (by omega)
  rw [List.getElem?_eq_getElem h1] at hx
  rw [List.getElem?_eq_getElem h2] at hy
  injection hx with hx
  injection hy with hy
  rw [hx, hy] at this
  exact this h
/-- What the document's Merge answers. -/
def RMgd (Ls : List Gl) (w : World) (e : Ending) (w' : World) : Prop := ∃ (M : List En) (A' : Option Addr) (m c' : Nat) (er : Int), e = .returned (.tuple #[.slice A' m c', .int .i64 er]) ∧ M.length = m ∧ ((er = 30 ∧ M = [] ∧ ¬ ∀ g ∈ Ls, OrdL (ers g.l)) ∨ ((∀ g ∈ Ls, OrdL (ers g.l)) ∧ ((er = 0 ∧ OrdL (ers M) ∧ (ers M).Perm (flat Ls)) ∨ (er = 31 ∧ M = [] ∧ ¬ Apt (flat Ls))))) ∧ Lies w' A' (evals M) ∧ EIns w' M ∧ Below w.heap.size w w'
set_option maxRecDepth 100000 in
set_option maxHeartbeats 16000000 in
theorem refMerge_any (A : Option Addr) (Ls : List Gl) (n c : Nat) (w : World) (h : LsIn w A Ls n c) (hk : ∀ x ∈ flat Ls, x.1.length ≤ 140737488355328) (hg : ∀ g ∈ Ls, g.l.length * 64 ≤ 140737488351232) (h9 : n * 24 ≤ 140737488351232) (ht : (flat Ls).length * 64 ≤ 140737488351232) : Calls Try.prog 29 #[.slice A n c] w (RMgd Ls w) := by
  have HH := Lib.hid h
  have HK : Hid (∀ g ∈ Ls, ∀ q ∈ g.l, q.k.l.length ≤ 281474976710656) := Lib.hid (fun g hg q hq => by
    have := hk q.rd (by rw [← flatE_ers]; exact List.mem_map_of_mem (List.mem_flatten.2 ⟨g.l, List.mem_map_of_mem hg, hq⟩))
    have e : q.rd.1 = q.k.l := rfl
    rw [e] at this
    omega)
  have HN := Lib.hid h.len
  have HT := Lib.hid ht
  have HG := Lib.hid hg
  unfold RMgd
  clear h hk ht hg
  go_enter Try.func29, Try.ntmps29
  go_wp2_with fail
  go_loopw [4, 9] (fun t4 t9 wr => ∃ (k : Nat) (Am : Option Addr) (m cm : Nat), k ≤ n ∧ t9 = .int .i64 k ∧ t4 = .slice Am m cm ∧ Hid (Below w.heap.size w wr ∧ (∀ g ∈ Ls.take k, OrdL (ers g.l)) ∧ (flatE (Ls.take k)).length = m ∧ Erow wr w.heap.size Am cm (flatE (Ls.take k)))) (fun _ t9 _ => n - (intOf t9).toNat)
  case atStart => exact ⟨0, none, 0, 0, by omega, rfl, rfl, Lib.hid ⟨Below.refl _ _, fun _ h => by simp at h, by simp [flatE, gets], by simpa [flatE, gets] using Erow.nil w w.heap.size⟩⟩
  case round =>
    obtain ⟨k, Am, m, cm, hk, rfl, rfl, hr⟩ := hrel
    by_cases hlt : k < n
    · have hq := List.getElem?_eq_getElem (l := Ls) (i := k) (by have := HN.out; omega)
      generalize Ls[k]'(by have := HN.out; omega) = g at hq
      obtain ⟨ad, rfl, a0⟩ := take_gvals (HH.out.lies.kept hr.out.1) hq
      have hmem := List.mem_of_getElem? hq
      have HQ := Lib.hid hq
      have HM := Lib.hid hmem
      have HE := Lib.hid (HH.out.each g hmem)
      have HTK : Hid (∀ x ∈ Ls.take (k + 1), x ∈ Ls.take k ∨ x = g) := Lib.hid (fun x hx => by
        rw [List.take_add_one, hq, Option.toList_some] at hx
        rcases List.mem_append.1 hx with e | e
        · exact .inl e
        · exact .inr (List.mem_singleton.1 e))
      have k0 : (k : Int) < n := by omega
      obtain ⟨od, hod⟩ : ∃ od, decide (OrdL (ers g.l)) = od := ⟨_, rfl⟩
      obtain ⟨gn, hgn⟩ : ∃ m, g.l.length = m := ⟨_, rfl⟩
      have HMS : Hid (Calls Try.prog 35 #[.slice g.a gn g.c] wr fun e w' => e = .returned (.bool od) ∧ Below wr.heap.size wr w') := Lib.hid (by
        have := refOrdered_any g.a g.l gn g.c wr hgn (HE.out.1.kept hr.out.1) (HE.out.2.1.kept hr.out.1) (by have := HG.out g hmem; omega) (HK.out g hmem)
        rwa [hod] at this)
      have HOD := Lib.hid hod
      have HGN := Lib.hid hgn
      have HCL : Hid (∀ W, Below w.heap.size w W → W.cell? (ad.add k) = some (.slice g.a gn g.c)) := Lib.hid (fun W hW => by
        obtain ⟨ad', e, a1⟩ := take_gvals (HH.out.lies.kept hW) hq
        injection e with e
        subst e
        rw [a1]
        unfold Gl.val
        rw [hgn])
      unfold Gl.val at a0
      rw [hgn] at a0
      clear hq hmem hod hgn
      cases od
      · go_wp2_with (go_at_call 35; refine HMS.out.mono ?_; rintro e w2 ⟨rfl, b2⟩; have B2 : Hid (Below w.heap.size w w2) := Lib.hid (hr.out.1.trans (b2.mono hr.out.1.size)); clear b2)
        go_ret2
        exact ⟨[], none, 0, 0, 30, rfl, rfl, .inl ⟨rfl, rfl, fun ha => of_decide_eq_false HOD.out (ha g HM.out)⟩, .inl rfl, EIns.nil _, B2.out⟩
      · have HTOT : Hid (m + gn ≤ (flat Ls).length) := Lib.hid (by
          have := flat_len_take Ls (k + 1)
          rw [flatE_take HQ.out, List.length_append, hr.out.2.2.1, HGN.out] at this
          exact this)
        go_upto_region 7 with (go_at_call 35; refine HMS.out.mono ?_; rintro e w2 ⟨rfl, b2⟩; have B2 : Hid (Below w.heap.size w w2 ∧ Below wr.heap.size wr w2) := Lib.hid ⟨hr.out.1.trans (b2.mono hr.out.1.size), b2⟩; clear b2)
        clear a0
        have a0 := HCL.out w2 B2.out.1
        go_upto_region 8 with (at_builtin; refine wpList_append_erow _ (by rfl) (.tmp 18) (.tmp 22) (by rfl) w.heap.size Am cm (flatE (Ls.take k)) g.l _ m gn g.c (by first | rfl | (simp [Act.eval]; done)) (by first | rfl | (simp [Act.eval]; done)) hr.out.2.2.1 HGN.out (hr.out.2.2.2.kept B2.out.2 (Nat.le_refl _)) (HE.out.1.kept B2.out.1) B2.out.1.size (by have := hr.out.2.2.1; have := HGN.out; have := HTOT.out; have := HT.out; omega) ?_; intro A8 c8 w8 r8 b8 g8; have H8 : Hid (Erow w8 w.heap.size A8 c8 (flatE (Ls.take k) ++ g.l) ∧ Below w.heap.size w w8) := Lib.hid ⟨r8, B2.out.1.trans b8⟩; clear r8 b8 g8)
        go_wp2_with fail
        go_roundw
        case rel => exact ⟨k + 1, A8, m + gn, c8, by omega, by go_num, rfl, Lib.hid ⟨H8.out.2, fun x hx => (HTK.out x hx).elim (hr.out.2.1 x) (fun e => e ▸ of_decide_eq_true HOD.out), by rw [flatE_take HQ.out, List.length_append, hr.out.2.2.1, HGN.out], by rw [flatE_take HQ.out]; exact H8.out.1⟩⟩
        case measure => simp [intOf]; omega
    · obtain rfl : n = k := by omega
      have HALL : Hid (∀ g ∈ Ls, OrdL (ers g.l)) := Lib.hid (by have := hr.out.2.1; rwa [List.take_of_length_le (by have := HN.out; omega)] at this)
      have HRW : Hid ((flatE Ls).length = m ∧ Erow wr w.heap.size Am cm (flatE Ls)) := Lib.hid (by have := hr.out.2.2; rwa [List.take_of_length_le (by have := HN.out; omega)] at this)
      have HCAP := Lib.hid (own_cap HRW.out.2)
      have HTOT : Hid (m * 64 ≤ 140737488351232) := Lib.hid (by have := HT.out; rw [← flatE_ers, ers_len, HRW.out.1] at this; exact this)
      have HEI : Hid (∀ W, Below w.heap.size w W → EIns W (flatE Ls)) := Lib.hid (fun W hW q hq => by
        obtain ⟨g, hg, hq⟩ := flatE_mem hq
        exact ((HH.out.each g hg).2.1.kept hW) q hq)
      have HSO : Hid (Calls Try.prog 25 #[.slice Am m cm] wr (SrtE (flatE Ls) wr)) := Lib.hid (refSorted_any m Am (flatE Ls) m cm wr HRW.out.1 (Nat.le_refl _) (by have := HCAP.out.1; have := HRW.out.1; omega) HCAP.out.2 HRW.out.2.lies (HEI.out wr hr.out.1) HTOT.out (fun q hq => by
        obtain ⟨g, hg, hq⟩ := flatE_mem hq
        exact HK.out g hg q hq))
      have HBW := Lib.hid hr.out.1
      clear hlt hk hr
      generalize wr = w1 at HSO HRW HBW ⊢
      go_upto_region 10 with (go_at_call 25; refine Calls.mono HSO.out ?_; rintro e w2 ⟨M, A2, m2, c2, rfl, a1, a2, a3, a4, a5, a6, b1⟩; obtain rfl : m = m2 := (by have := a5.length_eq; have := HRW.out.1; omega); have H2 : Hid (M.length = m ∧ m ≤ c2 ∧ (c2 : Int) ≤ 9223372036854775807 ∧ Lies w2 A2 (evals M) ∧ M.Perm (flatE Ls) ∧ List.Pairwise leE (ers M) ∧ Below w.heap.size w w2) := Lib.hid ⟨a1, a2, a3, a4, a5, a6, HBW.out.trans (b1.mono HBW.out.size)⟩; clear a1 a2 a3 a4 a5 a6 b1 HSO)
      have HPF : Hid ((ers M).Perm (flat Ls)) := Lib.hid (by rw [← flatE_ers]; exact H2.out.2.2.2.2.1.map _)
      have HMM : Hid (∀ q ∈ M, q.k.l.length ≤ 281474976710656) := Lib.hid (fun q hq => by
        obtain ⟨g, hg, hq⟩ := flatE_mem (H2.out.2.2.2.2.1.mem_iff.1 hq)
        exact HK.out g hg q hq)
      have HMI : Hid (∀ W, Below w.heap.size w W → EIns W M) := Lib.hid (fun W hW q hq => HEI.out W hW q (H2.out.2.2.2.2.1.mem_iff.1 hq))
      have m9 : m * 64 ≤ 140737488351232 := HTOT.out
      go_wp2_with fail
      go_loopw [6] (fun t6 wr => ∃ i : Nat, 1 ≤ i ∧ t6 = .int .i64 i ∧ Hid ((i ≤ m ∨ i = 1) ∧ NoTwo (ers M) i ∧ Below w2.heap.size w2 wr)) (fun t6 _ => m - (intOf t6).toNat)
      case atStart => exact ⟨1, by omega, rfl, Lib.hid ⟨.inr rfl, fun j x y hj => by omega, Below.refl _ _⟩⟩
      case round =>
        obtain ⟨i, hi, rfl, hv⟩ := hrel
        by_cases hlt : i < m
        · obtain ⟨j, hj⟩ : ∃ j, i = j + 1 := ⟨i - 1, by omega⟩
          have hqx := List.getElem?_eq_getElem (l := M) (i := j) (by have := H2.out.1; omega)
          generalize M[j]'(by have := H2.out.1; omega) = x at hqx
          have hqy := List.getElem?_eq_getElem (l := M) (i := i) (by have := H2.out.1; omega)
          generalize M[i]'(by have := H2.out.1; omega) = y at hqy
          obtain ⟨am, rfl, -⟩ := lies_entry H2.out.2.2.2.1 hqx
          obtain ⟨xn, hxn⟩ : ∃ m, x.k.l.length = m := ⟨_, rfl⟩
          obtain ⟨xv, hxv⟩ : ∃ m, x.v.l.length = m := ⟨_, rfl⟩
          obtain ⟨yn, hyn⟩ : ∃ m, y.k.l.length = m := ⟨_, rfl⟩
          obtain ⟨yv, hyv⟩ : ∃ m, y.v.l.length = m := ⟨_, rfl⟩
          have HWV : Hid (Below w.heap.size w wr) := Lib.hid (H2.out.2.2.2.2.2.2.trans (hv.out.2.2.mono H2.out.2.2.2.2.2.2.size))
          have HSC : Hid (∀ V, Below wr.heap.size wr V → (V.cell? (am.add (j * 4)) = some (.slice x.k.a xn x.k.c) ∧ V.cell? ⟨(am.add (j * 4)).block, (am.add (j * 4)).off + 1, none⟩ = some (.int .i64 x.s) ∧ V.cell? ⟨(am.add (j * 4)).block, (am.add (j * 4)).off + 2, none⟩ = some (.bool x.d) ∧ V.cell? ⟨(am.add (j * 4)).block, (am.add (j * 4)).off + 3, none⟩ = some (.slice x.v.a xv x.v.c)) ∧ V.cell? (am.add (i * 4)) = some (.slice y.k.a yn y.k.c) ∧ V.cell? ⟨(am.add (i * 4)).block, (am.add (i * 4)).off + 1, none⟩ = some (.int .i64 y.s) ∧ V.cell? ⟨(am.add (i * 4)).block, (am.add (i * 4)).off + 2, none⟩ = some (.bool y.d) ∧ V.cell? ⟨(am.add (i * 4)).block, (am.add (i * 4)).off + 3, none⟩ = some (.slice y.v.a yv y.v.c)) := Lib.hid (fun V hV => by
            have hL := H2.out.2.2.2.1.kept (hv.out.2.2.trans (hV.mono hv.out.2.2.size))
            have p1 := lies_entry_at hL hqx
            have p2 := lies_entry_at hL hqy
            unfold AtE at p1 p2
            rw [hxn, hxv] at p1
            rw [hyn, hyv] at p2
            exact ⟨p1, p2⟩)
          obtain ⟨o, ho⟩ : ∃ o, ordE x.rd y.rd = o := ⟨_, rfl⟩
          have HOR : Hid (∀ V, Below wr.heap.size wr V → Calls Try.prog 57 #[.agg #[.slice x.k.a xn x.k.c, .int .i64 x.s, .bool x.d, .slice x.v.a xv x.v.c], .agg #[.slice y.k.a yn y.k.c, .int .i64 y.s, .bool y.d, .slice y.v.a yv y.v.c]] V fun e w' => e = .returned (.int .i64 o) ∧ Below V.heap.size V w') := Lib.hid (fun V hV => by
            have hb : Below w.heap.size w V := HWV.out.trans (hV.mono HWV.out.size)
            have hx := List.mem_of_getElem? hqx
            have hy := List.mem_of_getElem? hqy
            have := refCmp_any x y V (HMI.out V hb x hx) (HMI.out V hb y hy) (HMM.out x hx) (HMM.out y hy)
            rwa [En.val_eq, En.val_eq, hxn, hxv, hyn, hyv, ho] at this)
          have HJ2 : Hid (IntKind.i64.wrap ((i : Int) - 1) = j) := Lib.hid (by have := HTOT.out; rw [IntKind.wrap_i64]; omega)
          have HXY : Hid ((ers M)[j]? = some x.rd ∧ (ers M)[j + 1]? = some y.rd ∧ i = j + 1) := Lib.hid ⟨ers_get hqx, hj ▸ ers_get hqy, hj⟩
          have k0 : (i : Int) < m := by omega
          have k1 : (j : Int) < m := by omega
          have HOO := Lib.hid ho
          clear hqx hqy hxn hxv hyn hyv ho hj
          go_upto_region 13 with fail
          by_cases h0 : o = 0
          · have d0 : (o == 0) = true := by simpa using h0
            have HZ : Hid (ordE x.rd y.rd = 0) := Lib.hid (HOO.out.trans h0)
            clear h0
            refine wp_region_held (S := fun V => (V.cell? (am.add (j * 4)) = some (.slice x.k.a xn x.k.c) ∧ V.cell? ⟨(am.add (j * 4)).block, (am.add (j * 4)).off + 1, none⟩ = some (.int .i64 x.s) ∧ V.cell? ⟨(am.add (j * 4)).block, (am.add (j * 4)).off + 2, none⟩ = some (.bool x.d) ∧ V.cell? ⟨(am.add (j * 4)).block, (am.add (j * 4)).off + 3, none⟩ = some (.slice x.v.a xv x.v.c)) ∧ V.cell? (am.add (i * 4)) = some (.slice y.k.a yn y.k.c) ∧ V.cell? ⟨(am.add (i * 4)).block, (am.add (i * 4)).off + 1, none⟩ = some (.int .i64 y.s) ∧ V.cell? ⟨(am.add (i * 4)).block, (am.add (i * 4)).off + 2, none⟩ = some (.bool y.d) ∧ V.cell? ⟨(am.add (i * 4)).block, (am.add (i * 4)).off + 3, none⟩ = some (.slice y.v.a yv y.v.c)) (by kernel_rfl) ?_
            change wpAnyH _ _ _ _ _ _ _ _ (World.drew _)
            have s0 := HSC.out _ (Below.refl _ _).drew
            refine wpAnyH_take (i := 0) (v := .slice (some am) m c2) rfl (by kernel_rfl) (by kernel_rfl) (by kernel_rfl) (fun _ _ _ h => h) (Or.inl ⟨by first | kernel_rfl | rfl, fun _ hS => by go_simp⟩) s0 ?_
            try simp only [Act.put, List.getElem_toArray, List.getElem_cons_zero, List.getElem_cons_succ, List.setIfInBounds_toArray, List.set_cons_zero, List.set_cons_succ]
            refine wpAnyH_take (i := 1) (v := .int .i64 (i : Int)) rfl (by kernel_rfl) (by kernel_rfl) (by kernel_rfl) (fun _ _ _ h => h) (Or.inl ⟨by first | kernel_rfl | rfl, fun _ hS => by go_simp⟩) s0 ?_
            try simp only [Act.put, List.getElem_toArray, List.getElem_cons_zero, List.getElem_cons_succ, List.setIfInBounds_toArray, List.set_cons_zero, List.set_cons_succ]
            refine wpAnyH_take (i := 2) (v := .int .i64 (j : Int)) rfl (by kernel_rfl) (by kernel_rfl) (by kernel_rfl) (fun _ _ _ h => h) (Or.inl ⟨by first | kernel_rfl | rfl, fun _ hS => by go_simp; exact HJ2.out⟩) s0 ?_
            try simp only [Act.put, List.getElem_toArray, List.getElem_cons_zero, List.getElem_cons_succ, List.setIfInBounds_toArray, List.set_cons_zero, List.set_cons_succ]
            refine wpAnyH_take (i := 3) (v := .pointer (some (am.add (j * 4)))) rfl (by kernel_rfl) (by kernel_rfl) (by kernel_rfl) (fun _ _ _ h => h) (Or.inl ⟨by first | kernel_rfl | rfl, fun _ hS => by go_simp⟩) s0 ?_
            try simp only [Act.put, List.getElem_toArray, List.getElem_cons_zero, List.getElem_cons_succ, List.setIfInBounds_toArray, List.set_cons_zero, List.set_cons_succ]
            refine wpAnyH_take (i := 4) (v := .agg #[.slice x.k.a xn x.k.c, .int .i64 x.s, .bool x.d, .slice x.v.a xv x.v.c]) rfl (by kernel_rfl) (by kernel_rfl) (by kernel_rfl) (fun _ _ _ h => h) (Or.inl ⟨by first | kernel_rfl | rfl, fun _ hS => by obtain ⟨⟨k1, k2, k3, k4⟩, k5, k6, k7, k8⟩ := hS; go_simp⟩) s0 ?_
            try simp only [Act.put, List.getElem_toArray, List.getElem_cons_zero, List.getElem_cons_succ, List.setIfInBounds_toArray, List.set_cons_zero, List.set_cons_succ]
            refine wpAnyH_take (i := 5) (v := .slice (some am) m c2) rfl (by kernel_rfl) (by kernel_rfl) (by kernel_rfl) (fun _ _ _ h => h) (Or.inl ⟨by first | kernel_rfl | rfl, fun _ hS => by go_simp⟩) s0 ?_
            try simp only [Act.put, List.getElem_toArray, List.getElem_cons_zero, List.getElem_cons_succ, List.setIfInBounds_toArray, List.set_cons_zero, List.set_cons_succ]
            refine wpAnyH_take (i := 6) (v := .int .i64 (i : Int)) rfl (by kernel_rfl) (by kernel_rfl) (by kernel_rfl) (fun _ _ _ h => h) (Or.inl ⟨by first | kernel_rfl | rfl, fun _ hS => by go_simp⟩) s0 ?_
            try simp only [Act.put, List.getElem_toArray, List.getElem_cons_zero, List.getElem_cons_succ, List.setIfInBounds_toArray, List.set_cons_zero, List.set_cons_succ]
            refine wpAnyH_take (i := 7) (v := .pointer (some (am.add (i * 4)))) rfl (by kernel_rfl) (by kernel_rfl) (by kernel_rfl) (fun _ _ _ h => h) (Or.inl ⟨by first | kernel_rfl | rfl, fun _ hS => by go_simp⟩) s0 ?_
            try simp only [Act.put, List.getElem_toArray, List.getElem_cons_zero, List.getElem_cons_succ, List.setIfInBounds_toArray, List.set_cons_zero, List.set_cons_succ]
            refine wpAnyH_take (i := 8) (v := .agg #[.slice y.k.a yn y.k.c, .int .i64 y.s, .bool y.d, .slice y.v.a yv y.v.c]) rfl (by kernel_rfl) (by kernel_rfl) (by kernel_rfl) (fun _ _ _ h => h) (Or.inl ⟨by first | kernel_rfl | rfl, fun _ hS => by obtain ⟨⟨k1, k2, k3, k4⟩, k5, k6, k7, k8⟩ := hS; go_simp⟩) s0 ?_
            try simp only [Act.put, List.getElem_toArray, List.getElem_cons_zero, List.getElem_cons_succ, List.setIfInBounds_toArray, List.set_cons_zero, List.set_cons_succ]
            refine wpAnyH_ready (rs := [9]) (by kernel_rfl) (by simp) ?_
            refine AllReadyH.cons rfl (fun K hK => ?_) AllReadyH.nil
            go_simp
            go_at_call 57
            refine (HOR.out _ (Below.refl _ _).drew).mono ?_
            rintro e w6 ⟨rfl, b6⟩
            have B6 : Hid (Below wr.heap.size wr w6) := Lib.hid (below_then (Below.refl _ _).drew b6)
            clear b6
            refine hK.out _ _ (HSC.out _ B6.out) (fun _ => ?_)
            clear hK K
            try simp only [Act.put, List.getElem_toArray, List.getElem_cons_zero, List.getElem_cons_succ, List.setIfInBounds_toArray, List.set_cons_zero, List.set_cons_succ]
            have s1 := HSC.out _ B6.out
            refine wpAnyH_take (i := 10) (v := .bool true) rfl (by kernel_rfl) (by kernel_rfl) (by kernel_rfl) (fun _ _ _ h => h) (Or.inl ⟨by first | kernel_rfl | rfl, fun _ hS => by go_simp⟩) s1 ?_
            try simp only [Act.put, List.getElem_toArray, List.getElem_cons_zero, List.getElem_cons_succ, List.setIfInBounds_toArray, List.set_cons_zero, List.set_cons_succ]
            refine wpAnyH_done (by kernel_rfl) ?_ _
            try simp only [Act.put, List.getElem_toArray, List.getElem_cons_zero, List.getElem_cons_succ, List.setIfInBounds_toArray, List.set_cons_zero, List.set_cons_succ]
            go_wp2_with fail
            go_ret2
            exact ⟨[], none, 0, 0, 31, rfl, rfl, .inr ⟨HALL.out, .inr ⟨rfl, rfl, fun ha => two_not_apt HXY.out.1 HXY.out.2.1 HZ.out ((apt_perm HPF.out).2 ha)⟩⟩, .inl rfl, EIns.nil _, HWV.out.trans (B6.out.mono HWV.out.size)⟩
          · have d0 : (o == 0) = false := by simpa using h0
            have HZ : Hid (ordE x.rd y.rd ≠ 0) := Lib.hid (by rw [HOO.out]; exact h0)
            clear h0
            refine wp_region_held (S := fun V => (V.cell? (am.add (j * 4)) = some (.slice x.k.a xn x.k.c) ∧ V.cell? ⟨(am.add (j * 4)).block, (am.add (j * 4)).off + 1, none⟩ = some (.int .i64 x.s) ∧ V.cell? ⟨(am.add (j * 4)).block, (am.add (j * 4)).off + 2, none⟩ = some (.bool x.d) ∧ V.cell? ⟨(am.add (j * 4)).block, (am.add (j * 4)).off + 3, none⟩ = some (.slice x.v.a xv x.v.c)) ∧ V.cell? (am.add (i * 4)) = some (.slice y.k.a yn y.k.c) ∧ V.cell? ⟨(am.add (i * 4)).block, (am.add (i * 4)).off + 1, none⟩ = some (.int .i64 y.s) ∧ V.cell? ⟨(am.add (i * 4)).block, (am.add (i * 4)).off + 2, none⟩ = some (.bool y.d) ∧ V.cell? ⟨(am.add (i * 4)).block, (am.add (i * 4)).off + 3, none⟩ = some (.slice y.v.a yv y.v.c)) (by kernel_rfl) ?_
            change wpAnyH _ _ _ _ _ _ _ _ (World.drew _)
            have s0 := HSC.out _ (Below.refl _ _).drew
            refine wpAnyH_take (i := 0) (v := .slice (some am) m c2) rfl (by kernel_rfl) (by kernel_rfl) (by kernel_rfl) (fun _ _ _ h => h) (Or.inl ⟨by first | kernel_rfl | rfl, fun _ hS => by go_simp⟩) s0 ?_
            try simp only [Act.put, List.getElem_toArray, List.getElem_cons_zero, List.getElem_cons_succ, List.setIfInBounds_toArray, List.set_cons_zero, List.set_cons_succ]
            refine wpAnyH_take (i := 1) (v := .int .i64 (i : Int)) rfl (by kernel_rfl) (by kernel_rfl) (by kernel_rfl) (fun _ _ _ h => h) (Or.inl ⟨by first | kernel_rfl | rfl, fun _ hS => by go_simp⟩) s0 ?_
            try simp only [Act.put, List.getElem_toArray, List.getElem_cons_zero, List.getElem_cons_succ, List.setIfInBounds_toArray, List.set_cons_zero, List.set_cons_succ]
            refine wpAnyH_take (i := 2) (v := .int .i64 (j : Int)) rfl (by kernel_rfl) (by kernel_rfl) (by kernel_rfl) (fun _ _ _ h => h) (Or.inl ⟨by first | kernel_rfl | rfl, fun _ hS => by go_simp; exact HJ2.out⟩) s0 ?_
            try simp only [Act.put, List.getElem_toArray, List.getElem_cons_zero, List.getElem_cons_succ, List.setIfInBounds_toArray, List.set_cons_zero, List.set_cons_succ]
            refine wpAnyH_take (i := 3) (v := .pointer (some (am.add (j * 4)))) rfl (by kernel_rfl) (by kernel_rfl) (by kernel_rfl) (fun _ _ _ h => h) (Or.inl ⟨by first | kernel_rfl | rfl, fun _ hS => by go_simp⟩) s0 ?_
            try simp only [Act.put, List.getElem_toArray, List.getElem_cons_zero, List.getElem_cons_succ, List.setIfInBounds_toArray, List.set_cons_zero, List.set_cons_succ]
            refine wpAnyH_take (i := 4) (v := .agg #[.slice x.k.a xn x.k.c, .int .i64 x.s, .bool x.d, .slice x.v.a xv x.v.c]) rfl (by kernel_rfl) (by kernel_rfl) (by kernel_rfl) (fun _ _ _ h => h) (Or.inl ⟨by first | kernel_rfl | rfl, fun _ hS => by obtain ⟨⟨k1, k2, k3, k4⟩, k5, k6, k7, k8⟩ := hS; go_simp⟩) s0 ?_
            try simp only [Act.put, List.getElem_toArray, List.getElem_cons_zero, List.getElem_cons_succ, List.setIfInBounds_toArray, List.set_cons_zero, List.set_cons_succ]
            refine wpAnyH_take (i := 5) (v := .slice (some am) m c2) rfl (by kernel_rfl) (by kernel_rfl) (by kernel_rfl) (fun _ _ _ h => h) (Or.inl ⟨by first | kernel_rfl | rfl, fun _ hS => by go_simp⟩) s0 ?_
            try simp only [Act.put, List.getElem_toArray, List.getElem_cons_zero, List.getElem_cons_succ, List.setIfInBounds_toArray, List.set_cons_zero, List.set_cons_succ]
            refine wpAnyH_take (i := 6) (v := .int .i64 (i : Int)) rfl (by kernel_rfl) (by kernel_rfl) (by kernel_rfl) (fun _ _ _ h => h) (Or.inl ⟨by first | kernel_rfl | rfl, fun _ hS => by go_simp⟩) s0 ?_
            try simp only [Act.put, List.getElem_toArray, List.getElem_cons_zero, List.getElem_cons_succ, List.setIfInBounds_toArray, List.set_cons_zero, List.set_cons_succ]
            refine wpAnyH_take (i := 7) (v := .pointer (some (am.add (i * 4)))) rfl (by kernel_rfl) (by kernel_rfl) (by kernel_rfl) (fun _ _ _ h => h) (Or.inl ⟨by first | kernel_rfl | rfl, fun _ hS => by go_simp⟩) s0 ?_
            try simp only [Act.put, List.getElem_toArray, List.getElem_cons_zero, List.getElem_cons_succ, List.setIfInBounds_toArray, List.set_cons_zero, List.set_cons_succ]
            refine wpAnyH_take (i := 8) (v := .agg #[.slice y.k.a yn y.k.c, .int .i64 y.s, .bool y.d, .slice y.v.a yv y.v.c]) rfl (by kernel_rfl) (by kernel_rfl) (by kernel_rfl) (fun _ _ _ h => h) (Or.inl ⟨by first | kernel_rfl | rfl, fun _ hS => by obtain ⟨⟨k1, k2, k3, k4⟩, k5, k6, k7, k8⟩ := hS; go_simp⟩) s0 ?_
            try simp only [Act.put, List.getElem_toArray, List.getElem_cons_zero, List.getElem_cons_succ, List.setIfInBounds_toArray, List.set_cons_zero, List.set_cons_succ]
            refine wpAnyH_ready (rs := [9]) (by kernel_rfl) (by simp) ?_
            refine AllReadyH.cons rfl (fun K hK => ?_) AllReadyH.nil
            go_simp
            go_at_call 57
            refine (HOR.out _ (Below.refl _ _).drew).mono ?_
            rintro e w6 ⟨rfl, b6⟩
            have B6 : Hid (Below wr.heap.size wr w6) := Lib.hid (below_then (Below.refl _ _).drew b6)
            clear b6
            refine hK.out _ _ (HSC.out _ B6.out) (fun _ => ?_)
            clear hK K
            try simp only [Act.put, List.getElem_toArray, List.getElem_cons_zero, List.getElem_cons_succ, List.setIfInBounds_toArray, List.set_cons_zero, List.set_cons_succ]
            have s1 := HSC.out _ B6.out
            refine wpAnyH_take (i := 10) (v := .bool false) rfl (by kernel_rfl) (by kernel_rfl) (by kernel_rfl) (fun _ _ _ h => h) (Or.inl ⟨by first | kernel_rfl | rfl, fun _ hS => by go_simp⟩) s1 ?_
            try simp only [Act.put, List.getElem_toArray, List.getElem_cons_zero, List.getElem_cons_succ, List.setIfInBounds_toArray, List.set_cons_zero, List.set_cons_succ]
            refine wpAnyH_done (by kernel_rfl) ?_ _
            try simp only [Act.put, List.getElem_toArray, List.getElem_cons_zero, List.getElem_cons_succ, List.setIfInBounds_toArray, List.set_cons_zero, List.set_cons_succ]
            go_wp2_with fail
            go_roundw
            case rel => exact ⟨i + 1, by omega, by go_num, Lib.hid ⟨.inl (by omega), fun j' a b hj' ha hb => (by
              by_cases e : j' = j
              · subst e
                rw [HXY.out.1] at ha
                rw [HXY.out.2.1] at hb
                injection ha with ha
                injection hb with hb
                rw [← ha, ← hb]
                exact HZ.out
              · exact hv.out.2.1 j' a b (by have := HXY.out.2.2; omega) ha hb), hv.out.2.2.trans (B6.out.mono hv.out.2.2.size)⟩⟩
            case measure => simp [intOf]; omega
        · have HNT : Hid (NoTwo (ers M) (ers M).length) := Lib.hid (by
            have := H2.out.1
            rw [ers_len]
            intro j' a b hj' ha hb
            exact hv.out.2.1 j' a b (by omega) ha hb)
          have HOL : Hid (OrdL (ers M)) := Lib.hid (OrdL.pw.2 ⟨fun e he => by
            have := HPF.out.mem_iff.1 he
            rw [← flat_fl] at this
            obtain ⟨l, hl, hx⟩ := List.mem_flatten.1 this
            obtain ⟨g, hg, rfl⟩ := List.mem_map.1 hl
            exact (HALL.out g hg).good e hx, noTwo_strict H2.out.2.2.2.2.2.1 HNT.out⟩)
          have HWV : Hid (Below w.heap.size w wr) := Lib.hid (H2.out.2.2.2.2.2.2.trans (hv.out.2.2.mono H2.out.2.2.2.2.2.2.size))
          go_wp2_with fail
          go_ret2
          exact ⟨M, A2, m, c2, 0, rfl, H2.out.1, .inr ⟨HALL.out, .inl ⟨rfl, HOL.out, HPF.out⟩⟩, H2.out.2.2.2.1.kept hv.out.2.2, HMI.out wr HWV.out, HWV.out⟩
end Go.Proofs.Ytcffpkflijpdjaa
namespace Go.Proofs.Ytcffpkflijpdjaa
open Go.RowKit
/-- Lists whose rows are the call's own. -/
def GMades (w : World) (B : Nat) (T : List Gl) : Prop := ∀ g ∈ T, Erow w B g.a g.c g.l ∧ EMades w B g.l
theorem GMades.nil (w : World) (B : Nat) : GMades w B [] := fun _ h => by cases h
theorem GMades.kept {w w' : World} {B C : Nat} {T : List Gl} (h : GMades w B T) (hb : Below C w w') (hC : w.heap.size ≤ C) : GMades w' B T := fun g hg => ⟨(h g hg).1.kept hb hC, (h g hg).2.kept hb hC⟩
theorem GMades.mono {w : World} {B C : Nat} {T : List Gl} (h : GMades w B T) (hC : C ≤ B) : GMades w C T := fun g hg => ⟨(h g hg).1.mono hC, (h g hg).2.mono hC⟩
theorem GMades.besideG {w w' : World} {B D d : Nat} {C : Option Addr} {T U : List Gl} (h : GMades w B T) (hs : Grow w D C d U) (hg : w.grownBy w' (Value.slice C U.length d).ownBlock) : GMades w' B T := fun g hgm => by
  obtain ⟨h1, h2⟩ := h g hgm
  refine ⟨?_, fun q hq => ⟨own_apart (h2 q hq).1 hs (by decide) hg, own_apart (h2 q hq).2 hs (by decide) hg⟩⟩
  exact own_apart h1 hs (by decide) hg
theorem GMades.snoc {w : World} {B : Nat} {T : List Gl} {g : Gl} (h : GMades w B T) (h1 : Erow w B g.a g.c g.l) (h2 : EMades w B g.l) : GMades w B (T ++ [g]) := fun x hx => by
  rcases List.mem_append.1 hx with e | e
  · exact h x e
  · rw [List.mem_singleton.1 e]; exact ⟨h1, h2⟩
theorem fl_append (S T : List Gl) : fl (S ++ T) = fl S ++ fl T := by simp [fl]
theorem fl_get {T : List Gl} {k : Nat} {g : Gl} (h : T[k]? = some g) : (fl T)[k]? = some (ers g.l) := by simp [fl, h]
theorem fl_length (T : List Gl) : (fl T).length = T.length := by simp [fl]
/-- A literal of one list. -/
theorem lit_list (w : World) (A : Option Addr) (c m : Nat) (l : List En) (hm : l.length = m) : Lies (w.alloc (.cells #[.slice A m c] 22)) (some ⟨w.heap.size, 0, none⟩) (gvals [⟨A, c, l⟩]) := by
  subst hm
  exact lit_lies w _ _ rfl _
/-- Bytes that may be marked, in blocks of Z. -/
def SpotZ (Z : Nat → Prop) (w : World) (A : Option Addr) (z : Nat) : Prop := z = 0 ∨ ∃ g cur, A = some ⟨g, 0, none⟩ ∧ Z g ∧ w.heap[g]? = some (.cells cur 5 (0, 0)) ∧ z ≤ cur.size ∧ ∀ j, j < z → ∃ x, cur[j]? = some (.int .u8 x)
theorem SpotZ.set {Z : Nat → Prop} {w : World} {A : Option Addr} {z g k : Nat} {y : Int} {cur : Array Value} (h : SpotZ Z w A z) (_hg : w.heap[g]? = some (.cells cur 5 (0, 0))) : SpotZ Z (w.setCell ⟨g, k, none⟩ (.int .u8 y)) A z := by
  rcases h with h | ⟨g', cur', e, h1, h3, h4, h5⟩
  · exact .inl h
  · by_cases hgg : g' = g
    · subst hgg
      refine .inr ⟨g', cur'.setIfInBounds k (.int .u8 y), e, h1, ?_, by simpa using h4, fun j hj => ?_⟩
      · simp [World.setCell, Array.getElem?_modify, h3]
      · obtain ⟨x, hx⟩ := h5 j hj
        by_cases hjk : k = j
        · subst hjk
          exact ⟨y, by rw [Array.getElem?_setIfInBounds_self_of_lt (by omega)]⟩
        · exact ⟨x, by rw [Array.getElem?_setIfInBounds_ne hjk, hx]⟩
    · refine .inr ⟨g', cur', e, h1, ?_, h4, h5⟩
      rw [Below.heap_setCell w ⟨g, k, none⟩ _ g' hgg, h3]
/-- While bytes are marked: all that may be marked still may, all else is as it was. -/
structure Mz (Z : Nat → Prop) (w0 w : World) : Prop where
  spots : ∀ A z, SpotZ Z w0 A z → SpotZ Z w A z
  kp : Kp (fun b => ¬ Z b) w0 w
theorem Mz.refl (Z : Nat → Prop) (w : World) : Mz Z w w := ⟨fun _ _ h => h, Kp.refl _ _⟩
theorem Mz.trans {Z : Nat → Prop} {w0 w1 w2 : World} (h : Mz Z w0 w1) (k : Mz Z w1 w2) : Mz Z w0 w2 :=
  ⟨fun A z q => k.spots A z (h.spots A z q), ⟨k.kp.os.trans h.kp.os, k.kp.tape.trans h.kp.tape, k.kp.output.trans h.kp.output, Nat.le_trans h.kp.size k.kp.size, fun g hg => (k.kp.block g hg).trans (h.kp.block g hg)⟩⟩
end Go.Proofs.Ytcffpkflijpdjaa
namespace Go.Proofs.Ytcffpkflijpdjaa
open Go.RowKit
def FitE (x : Er) : Prop := -9223372036854775808 ≤ x.2.1 ∧ x.2.1 ≤ 9223372036854775807
/-- Entries that come in. -/
structure EF (w : World) (A : Option Addr) (l : List En) (n c : Nat) : Prop where
  len : l.length = n
  lies : Lies w A (evals l)
  ins : EIns w l
  few : n * 64 ≤ 140737488351232
  fit : ∀ x ∈ ers l, FitE x
  long : ∀ x ∈ ers l, x.1.length ≤ 140737488351232 ∧ x.2.2.2.length ≤ 140737488351232
theorem EF.kept {w w' : World} {A : Option Addr} {l : List En} {n c : Nat} (h : EF w A l n c) (hb : Below w.heap.size w w') : EF w' A l n c := ⟨h.len, h.lies.kept hb, h.ins.kept hb, h.few, h.fit, h.long⟩
theorem EF.fits {w : World} {A : Option Addr} {l : List En} {n c : Nat} (h : EF w A l n c) : ∀ q ∈ l, EFit q := fun q hq => h.fit q.rd (List.mem_map_of_mem hq)
theorem EF.longs {w : World} {A : Option Addr} {l : List En} {n c : Nat} (h : EF w A l n c) : ∀ q ∈ l, q.k.l.length ≤ 140737488351232 ∧ q.v.l.length ≤ 140737488351232 := fun q hq => h.long q.rd (List.mem_map_of_mem hq)
theorem EF.more {w w' : World} {A A' : Option Addr} {l l' : List En} {n c n' c' : Nat} (h : EF w A l n c) (hs : ∀ x ∈ ers l', x ∈ ers l) (hn : l'.length = n') (hle : n' ≤ n) (hl : Lies w' A' (evals l')) (hm : EIns w' l') : EF w' A' l' n' c' :=
  ⟨hn, hl, hm, Nat.le_trans (Nat.mul_le_mul_right _ hle) h.few, fun x hx => h.fit x (hs x hx), fun x hx => h.long x (hs x hx)⟩
theorem EF.copy {w w1 w' : World} {A : Option Addr} {l : List En} {n c : Nat} (h : EF w A l n c) {e : Ending} (hc : ECopied w1 l e w') : ∃ (l' : List En) (A' : Option Addr) (c' : Nat), ers l' = ers l ∧ e = .returned (.slice A' n c') ∧ EF w' A' l' n c' ∧ EMades w' w1.heap.size l' ∧ Erow w' w1.heap.size A' c' l' ∧ Below w1.heap.size w1 w' := by
  obtain ⟨l', A', c', h1, h2, h3, h4, h5⟩ := hc
  have hl : l'.length = n := by rw [← ers_len, h1, ers_len, h.len]
  exact ⟨l', A', c', h1, by rw [h2, hl], h.more (fun x hx => by rw [← h1]; exact hx) hl (Nat.le_refl _) h4.lies (h3.ins (by rw [h1]; exact h.ins.byt)), h3, h4, h5⟩
theorem copy_ef {w : World} {A : Option Addr} {l : List En} {n c : Nat} (h : EF w A l n c) : Calls Try.prog 23 #[.slice A n c] w (ECopied w l) :=
  refCopy_any A l n c w h.len h.lies h.ins h.few h.longs
theorem thin_ef {w : World} {A : Option Addr} {l : List En} {n c : Nat} (s : Int) (b : Bool) (h : EF w A l n c) : Calls Try.prog 33 #[.slice A n c, .int .i64 s, .bool b] w (EMade (decide (OrdL (ers l))) (thinE s b (ers l)) w) :=
  thin_any A l n c s b w h.len h.lies h.ins h.fits h.few (fun q hq => by have := h.longs q hq; omega)
theorem refThin_ef {w : World} {A : Option Addr} {l : List En} {n c : Nat} (s : Int) (b : Bool) (h : EF w A l n c) : Calls Try.prog 34 #[.slice A n c, .int .i64 s, .bool b] w (EPick (decide (OrdL (ers l))) (thinE s b (ers l)) l w) :=
  refThin_any A l n c s b w h.len h.lies h.ins h.few (fun q hq => by have := (h.longs q hq).1; omega)
/-- Lists that come in. -/
structure LF (w : World) (A : Option Addr) (Ls : List Gl) (n c : Nat) : Prop where
  ls : LsIn w A Ls n c
  few : n * 24 ≤ 140737488351232
  tot : (flat Ls).length * 64 ≤ 140737488351232
  fit : ∀ x ∈ flat Ls, FitE x
  long : ∀ x ∈ flat Ls, x.1.length ≤ 140737488351232 ∧ x.2.2.2.length ≤ 140737488351232
theorem LF.kept {w w' : World} {A : Option Addr} {Ls : List Gl} {n c : Nat} (h : LF w A Ls n c) (hb : Below w.heap.size w w') : LF w' A Ls n c :=
  ⟨⟨h.ls.len, h.ls.lies.kept hb, fun g hg => by have := h.ls.each g hg; exact ⟨this.1.kept hb, this.2.1.kept hb, this.2.2⟩⟩, h.few, h.tot, h.fit, h.long⟩
theorem in_flat {Ls : List Gl} {g : Gl} {q : En} (hg : g ∈ Ls) (hq : q ∈ g.l) : q.rd ∈ flat Ls := by
  rw [← flatE_ers]
  exact List.mem_map_of_mem (List.mem_flatten.2 ⟨g.l, List.mem_map_of_mem hg, hq⟩)
theorem len_flat {Ls : List Gl} {g : Gl} (hg : g ∈ Ls) : g.l.length ≤ (flat Ls).length := by
  rw [← flat_fl, ← ers_len]
  exact (List.sublist_flatten_of_mem (List.mem_map_of_mem (f := fun g : Gl => ers g.l) hg)).length_le
theorem LF.each {w : World} {A : Option Addr} {Ls : List Gl} {n c : Nat} (h : LF w A Ls n c) {g : Gl} (hg : g ∈ Ls) : EF w g.a g.l g.l.length g.c := by
  have h1 := h.ls.each g hg
  have h2 := len_flat hg
  have h3 := h.tot
  refine ⟨rfl, h1.1, h1.2.1, by omega, fun x hx => ?_, fun x hx => ?_⟩
  · obtain ⟨q, hq, rfl⟩ := List.mem_map.1 hx
    exact h.fit _ (in_flat hg hq)
  · obtain ⟨q, hq, rfl⟩ := List.mem_map.1 hx
    exact h.long _ (in_flat hg hq)
theorem merge_lf {w : World} {A : Option Addr} {Ls : List Gl} {n c : Nat} (h : LF w A Ls n c) : Calls Try.prog 27 #[.slice A n c] w (Mgd Ls w) :=
  merge_any A Ls n c w h.ls (fun _ hg => ⟨(h.each hg).fits, (h.each hg).few⟩) (fun x hx => by have := h.long x hx; omega) h.few h.tot
theorem refMerge_lf {w : World} {A : Option Addr} {Ls : List Gl} {n c : Nat} (h : LF w A Ls n c) : Calls Try.prog 29 #[.slice A n c] w (RMgd Ls w) :=
  refMerge_any A Ls n c w h.ls (fun x hx => by have := h.long x hx; omega) (fun _ hg => (h.each hg).few) h.few h.tot
/-- Lists that a call has made. -/
theorem LF.made {w w' : World} {A A' : Option Addr} {Ls T : List Gl} {n c n' c' B : Nat} (h : LF w A Ls n c) (hf : (flat T).Sublist (flat Ls) ∨ (flat T).Perm (flat Ls)) (hn : T.length = n') (hle : n' * 24 ≤ 140737488351232) (hl : Lies w' A' (gvals T)) (hm : GMades w' B T) : LF w' A' T n' c' := by
  have hsub : ∀ x ∈ flat T, x ∈ flat Ls := fun x hx => hf.elim (fun h => h.subset hx) (fun h => h.mem_iff.1 hx)
  have hlen : (flat T).length ≤ (flat Ls).length := hf.elim (fun h => h.length_le) (fun h => by rw [h.length_eq]; exact Nat.le_refl _)
  have hbyt : ∀ x ∈ flat Ls, ErB x := fun x hx => by
    rw [← flat_fl] at hx
    obtain ⟨l, hl, hx⟩ := List.mem_flatten.1 hx
    obtain ⟨g, hg, rfl⟩ := List.mem_map.1 hl
    exact (h.ls.each g hg).2.1.byt x hx
  refine ⟨⟨hn, hl, fun g hg => ?_⟩, hle, by have := h.tot; omega, fun x hx => h.fit x (hsub x hx), fun x hx => h.long x (hsub x hx)⟩
  obtain ⟨h1, h2⟩ := hm g hg
  have hc := own_cap h1
  exact ⟨h1.lies, h2.ins (fun p hp => by
    obtain ⟨q, hq, rfl⟩ := List.mem_map.1 hp
    exact hbyt _ (hsub _ (in_flat hg hq))), hc.1, hc.2⟩
/-- What is answered of lists: it is this, and nothing else. -/
def AnsM (F : List (List Er)) (er : Int) (R : List Er) : Prop := (er = 30 ∧ R = [] ∧ ¬ ∀ l ∈ F, OrdL l) ∨ ((∀ l ∈ F, OrdL l) ∧ ((er = 0 ∧ OrdL R ∧ R.Perm F.flatten) ∨ (er = 31 ∧ R = [] ∧ ¬ Apt F.flatten)))
theorem all_fl {Ls : List Gl} : (∀ g ∈ Ls, OrdL (ers g.l)) ↔ ∀ l ∈ fl Ls, OrdL l := by
  unfold fl
  simp
theorem ansM_of {Ls : List Gl} {M : List En} {er : Int} (h : (er = 30 ∧ M = [] ∧ ¬ ∀ g ∈ Ls, OrdL (ers g.l)) ∨ ((∀ g ∈ Ls, OrdL (ers g.l)) ∧ ((er = 0 ∧ OrdL (ers M) ∧ (ers M).Perm (flat Ls)) ∨ (er = 31 ∧ M = [] ∧ ¬ Apt (flat Ls))))) : AnsM (fl Ls) er (ers M) := by
  unfold AnsM
  rw [flat_fl, ← all_fl]
  rcases h with ⟨h1, h2, h3⟩ | ⟨h0, h | ⟨h1, h2, h3⟩⟩
  · exact .inl ⟨h1, by rw [h2]; rfl, h3⟩
  · exact .inr ⟨h0, .inl h⟩
  · exact .inr ⟨h0, .inr ⟨h1, by rw [h2]; rfl, h3⟩⟩
theorem pw_le {L : List Er} (h : OrdL L) : List.Pairwise leE L := (OrdL.pw.1 h).2.imp (fun h => by unfold leE; omega)
theorem AnsM.one {F : List (List Er)} {e1 e2 : Int} {R1 R2 : List Er} (h : AnsM F e1 R1) (k : AnsM F e2 R2) : e1 = e2 ∧ R1 = R2 := by
  rcases h with ⟨a1, a2, a3⟩ | ⟨a0, ⟨a1, a2, a3⟩ | ⟨a1, a2, a3⟩⟩ <;> rcases k with ⟨b1, b2, b3⟩ | ⟨b0, ⟨b1, b2, b3⟩ | ⟨b1, b2, b3⟩⟩
  · exact ⟨a1.trans b1.symm, a2.trans b2.symm⟩
  · exact absurd b0 a3
  · exact absurd b0 a3
  · exact absurd a0 b3
  · exact ⟨a1.trans b1.symm, sorted_one (OrdL.pw.1 a2).2 (pw_le b2) (a3.trans b3.symm)⟩
  · exact absurd ((apt_perm a3).1 (ordL_apt a2)) b3
  · exact absurd a0 b3
  · exact absurd ((apt_perm b3).1 (ordL_apt b2)) a3
  · exact ⟨a1.trans b1.symm, a2.trans b2.symm⟩
theorem AnsM.ok {F : List (List Er)} {R : List Er} (h : AnsM F 0 R) : (∀ l ∈ F, OrdL l) ∧ OrdL R ∧ R.Perm F.flatten := by
  rcases h with ⟨h, -⟩ | ⟨h0, ⟨-, h1⟩ | ⟨h, -⟩⟩
  · cases h
  · exact ⟨h0, h1⟩
  · cases h
theorem AnsM.no {F : List (List Er)} {er : Int} {R : List Er} (h : AnsM F er R) (h0 : er ≠ 0) : R = [] := by
  rcases h with ⟨_, h, _⟩ | ⟨_, ⟨h, _⟩ | ⟨_, h, _⟩⟩
  · exact h
  · exact absurd h h0
  · exact h
/-- Of entries that may be made one all that is picked may be. -/
theorem AnsM.part {F G : List (List Er)} {R S : List Er} {er : Int} (h : AnsM F 0 R) (hs : ∀ l ∈ G, OrdL l) (ha : ∃ H, (G.flatten ++ H).Perm F.flatten) (k : AnsM G er S) : er = 0 := by
  obtain ⟨_, h2, h3⟩ := h.ok
  obtain ⟨H, hH⟩ := ha
  have ap : Apt G.flatten := (List.pairwise_append.1 ((apt_perm (h3.trans hH.symm)).1 (ordL_apt h2))).1
  rcases k with ⟨_, _, k⟩ | ⟨_, ⟨k, _⟩ | ⟨_, _, k⟩⟩
  · exact absurd hs k
  · exact k
  · exact absurd ap k
theorem AnsM.turn {F G : List (List Er)} {R S : List Er} {er : Int} (h : AnsM F 0 R) (hp : G.Perm F) (k : AnsM G er S) : er = 0 ∧ S = R := by
  have e : er = 0 := h.part (fun l hl => h.ok.1 l (hp.mem_iff.1 hl)) ⟨[], by simpa using hp.flatten⟩ k
  subst e
  exact ⟨rfl, (sorted_one (OrdL.pw.1 k.ok.2.1).2 (pw_le h.ok.2.1) ((k.ok.2.2.trans hp.flatten).trans h.ok.2.2.symm))⟩
end Go.Proofs.Ytcffpkflijpdjaa
namespace Go.Proofs.Ytcffpkflijpdjaa
open Go.RowKit
theorem one_conv (x : Int) (W : World) : (convert 23 23 (.slice (some ⟨W.heap.size, 0, none⟩) 1 1)).run Try.prog (W.alloc (.cells #[.int .u8 x] 5)) = .ok (.slice (some ⟨W.heap.size, 0, none⟩) 1 1) (W.alloc (.cells #[.int .u8 x] 5 (1, 2))) :=
  Lib.run_convert_bytes_const (P := Try.prog) W 23 5 #[.int .u8 x] 1 1 Try.underlying23 Try.underlying5
theorem one_convN (x : Int) (W : World) (n : Nat) (h : W.heap.size = n) : (convert 23 23 (.slice (some ⟨n, 0, none⟩) 1 1)).run Try.prog (W.alloc (.cells #[.int .u8 x] 5)) = .ok (.slice (some ⟨n, 0, none⟩) 1 1) (W.alloc (.cells #[.int .u8 x] 5 (1, 2))) := by
  subst h
  exact one_conv x W
theorem one_at {W : World} {g : Nat} {x : Int} {t : TypeId} {fr : Nat × Nat} (hh : W.heap[g]? = some (.cells #[.int .u8 x] t fr)) (h : 0 ≤ x ∧ x < 256) : In W (some ⟨g, 0, none⟩) [x] 1 1 := by
  refine ⟨rfl, Nat.le_refl _, by omega, .inr ⟨_, rfl, fun j y hy => ?_⟩, fun y hy => by rw [List.mem_singleton.1 hy]; exact h⟩
  rw [add_head]
  cases j with
  | zero =>
    simp at hy
    subst hy
    unfold World.cell?
    simp only
    rw [hh]
    rfl
  | succ j => simp at hy
theorem row_lies {W : World} {g : Nat} {cs : Array Value} {vs : List Value} {t : TypeId} {fr : Nat × Nat} (hh : W.heap[g]? = some (.cells cs t fr)) (e : cs.toList = vs) : Lies W (some ⟨g, 0, none⟩) vs := by
  refine .inr ⟨_, rfl, fun j u hu => ?_⟩
  rw [add_head]
  unfold World.cell?
  simp only
  rw [hh]
  subst e
  simpa using hu
/-- The law's own three entries. -/
def L3 : List Er := [([97], 5, false, [120]), ([97], 3, true, []), ([97], 2, false, [])]
def l3 (z : Nat) : List En := [⟨⟨some ⟨z, 0, none⟩, 1, [97]⟩, 5, false, ⟨some ⟨z + 1, 0, none⟩, 1, [120]⟩⟩, ⟨⟨some ⟨z + 2, 0, none⟩, 1, [97]⟩, 3, true, ⟨none, 0, []⟩⟩, ⟨⟨some ⟨z + 3, 0, none⟩, 1, [97]⟩, 2, false, ⟨none, 0, []⟩⟩]
/-- They lie. -/
def At3 (z : Nat) (W : World) : Prop := W.heap[z]? = some (.cells #[.int .u8 97] 5 (1, 2)) ∧ W.heap[z + 1]? = some (.cells #[.int .u8 120] 5 (1, 2)) ∧ W.heap[z + 2]? = some (.cells #[.int .u8 97] 5 (1, 2)) ∧ W.heap[z + 3]? = some (.cells #[.int .u8 97] 5 (1, 2)) ∧ W.heap[z + 4]? = some (.cells #[.slice (some ⟨z, 0, none⟩) 1 1, .int .i64 5, .bool false, .slice (some ⟨z + 1, 0, none⟩) 1 1, .slice (some ⟨z + 2, 0, none⟩) 1 1, .int .i64 3, .bool true, .slice none 0 0, .slice (some ⟨z + 3, 0, none⟩) 1 1, .int .i64 2, .bool false, .slice none 0 0] 26 (0, 0))
theorem At3.kept {z : Nat} {W W' : World} (h : At3 z W) (hb : Below W.heap.size W W') : At3 z W' :=
  ⟨obj_kept h.1 hb (Nat.le_refl _), obj_kept h.2.1 hb (Nat.le_refl _), obj_kept h.2.2.1 hb (Nat.le_refl _), obj_kept h.2.2.2.1 hb (Nat.le_refl _), obj_kept h.2.2.2.2 hb (Nat.le_refl _)⟩
theorem L3_small : ∀ x ∈ L3, FitE x ∧ x.1.length ≤ 140737488351232 ∧ x.2.2.2.length ≤ 140737488351232 := fun x hx => by
  simp only [L3, List.mem_cons, List.mem_nil_iff, or_false] at hx
  unfold FitE
  rcases hx with rfl | rfl | rfl <;> refine ⟨⟨by simp, by simp⟩, by simp, by simp⟩
theorem At3.ef {z : Nat} {W : World} (h : At3 z W) : EF W (some ⟨z + 4, 0, none⟩) (l3 z) 3 3 := by
  obtain ⟨h0, h1, h2, h3, h4⟩ := h
  refine ⟨rfl, row_lies h4 rfl, fun q hq => ?_, by decide, fun x hx => (L3_small x hx).1, fun x hx => (L3_small x hx).2⟩
  simp only [l3, List.mem_cons, List.mem_nil_iff, or_false] at hq
  rcases hq with rfl | rfl | rfl
  · exact ⟨one_at h0 (by decide), one_at h1 (by decide)⟩
  · exact ⟨one_at h2 (by decide), in_nil W⟩
  · exact ⟨one_at h3 (by decide), in_nil W⟩
theorem At3.head {z : Nat} {W : World} (h : At3 z W) : EF W (some ⟨z + 4, 0, none⟩) ((l3 z).take 1) 1 3 :=
  h.ef.more (fun x hx => by rw [ers_take] at hx; exact List.mem_of_mem_take hx) rfl (by omega) (lies_take h.ef.lies 1) (fun q hq => h.ef.ins q (List.mem_of_mem_take hq))
theorem At3.tail {z : Nat} {W : World} (h : At3 z W) : EF W (some ⟨z + 4, 4, none⟩) ((l3 z).drop 1) 2 2 :=
  h.ef.more (fun x hx => by rw [ers_drop] at hx; exact List.mem_of_mem_drop hx) rfl (by omega) (lies_drop (c := 3) h.ef.lies 1 (Nat.le_refl 3)) (fun q hq => h.ef.ins q (List.mem_of_mem_drop hq))
/-- A copy, and where it lies. -/
def Cpd (L : List Er) (n : Nat) (w : World) (e : Ending) (w' : World) : Prop := ∃ (l' : List En) (A' : Option Addr) (c' : Nat), ers l' = L ∧ e = .returned (.slice A' n c') ∧ EF w' A' l' n c' ∧ (n ≤ c' ∧ (c' : Int) ≤ 9223372036854775807) ∧ Below w.heap.size w w'
theorem cpd_ef {w : World} {A : Option Addr} {l : List En} {n c : Nat} (h : EF w A l n c) : Calls Try.prog 23 #[.slice A n c] w (Cpd (ers l) n w) :=
  (copy_ef h).mono fun e w' hc => by
    obtain ⟨l', A', c', h1, h2, h3, -, h5, h6⟩ := h.copy hc
    have hcap := own_cap h5
    rw [h3.len] at hcap
    exact ⟨l', A', c', h1, h2, h3, hcap, h6⟩
end Go.Proofs.Ytcffpkflijpdjaa
namespace Go.Proofs.Ytcffpkflijpdjaa
open Go.RowKit
theorem sameEns {w : World} {A B : Option Addr} {l m : List En} {n c n' c' : Nat} (hn : l.length = n) (hn' : m.length = n') (h1 : Lies w A (evals l)) (h2 : Lies w B (evals m)) (i1 : EIns w l) (i2 : EIns w m) (he : ers l = ers m) (hl : n * 64 ≤ 140737488351232) :
    Calls Try.prog 24 #[.slice A n c, .slice B n' c'] w fun e w' => e = .returned (.bool true) ∧ Below w.heap.size w w' := by
  refine (refSame_any A B l m n n' c c' w hn hn' h1 h2 i1 i2 (by omega)).mono ?_
  rintro e w' ⟨rfl, hb⟩
  exact ⟨by rw [decide_eq_true he], hb⟩
/-- What the program answers of lists. -/
def MAns (F : List (List Er)) (w : World) (e : Ending) (w' : World) : Prop := ∃ (M : List En) (A' : Option Addr) (m c' : Nat) (er : Int), e = .returned (.tuple #[.slice A' m c', .int .i64 er]) ∧ M.length = m ∧ AnsM F er (ers M) ∧ EMades w' w.heap.size M ∧ Erow w' w.heap.size A' c' M ∧ Below w.heap.size w w'
theorem merge_m {w : World} {A : Option Addr} {Ls : List Gl} {n c : Nat} {F : List (List Er)} (h : LF w A Ls n c) (hF : fl Ls = F) : Calls Try.prog 27 #[.slice A n c] w (MAns F w) :=
  (merge_lf h).mono fun e w' hc => by
    obtain ⟨M, A', m', c', er, h1, h2, h3, h4, h5, h6⟩ := hc
    exact ⟨M, A', m', c', er, h1, h2, hF ▸ ansM_of h3, h4, h5, h6⟩
def MRef (F : List (List Er)) (w : World) (e : Ending) (w' : World) : Prop := ∃ (M : List En) (A' : Option Addr) (m c' : Nat) (er : Int), e = .returned (.tuple #[.slice A' m c', .int .i64 er]) ∧ M.length = m ∧ AnsM F er (ers M) ∧ Lies w' A' (evals M) ∧ EIns w' M ∧ Below w.heap.size w w'
theorem refMerge_m {w : World} {A : Option Addr} {Ls : List Gl} {n c : Nat} {F : List (List Er)} (h : LF w A Ls n c) (hF : fl Ls = F) : Calls Try.prog 29 #[.slice A n c] w (MRef F w) :=
  (refMerge_lf h).mono fun e w' hc => by
    obtain ⟨M, A', m', c', er, h1, h2, h3, h4, h5, h6⟩ := hc
    exact ⟨M, A', m', c', er, h1, h2, hF ▸ ansM_of h3, h4, h5, h6⟩
theorem ansM_mem {F : List (List Er)} {er : Int} {R : List Er} (h : AnsM F er R) : (∀ x ∈ R, x ∈ F.flatten) ∧ R.length ≤ F.flatten.length := by
  rcases h with ⟨_, h, _⟩ | ⟨_, ⟨_, _, h⟩ | ⟨_, h, _⟩⟩
  · subst h; exact ⟨(fun x hx => by cases hx), Nat.zero_le _⟩
  · exact ⟨fun x hx => h.mem_iff.1 hx, by rw [h.length_eq]; exact Nat.le_refl _⟩
  · subst h; exact ⟨(fun x hx => by cases hx), Nat.zero_le _⟩
theorem LF.byt {w : World} {A : Option Addr} {Ls : List Gl} {n c : Nat} (h : LF w A Ls n c) : ∀ x ∈ (fl Ls).flatten, ErB x := fun x hx => by
  obtain ⟨l, hl, hx⟩ := List.mem_flatten.1 hx
  obtain ⟨g, hg, rfl⟩ := List.mem_map.1 hl
  exact (h.ls.each g hg).2.1.byt x hx
/-- What is answered may be read, and asked again. -/
theorem LF.out {w w' : World} {A A' : Option Addr} {Ls : List Gl} {n c m c' : Nat} {er : Int} {M : List En} (h : LF w A Ls n c) (ha : AnsM (fl Ls) er (ers M)) (hm : M.length = m) (hl : Lies w' A' (evals M)) (hi : EIns w' M) : EF w' A' M m c' := by
  obtain ⟨h1, h2⟩ := ansM_mem ha
  rw [flat_fl] at h1 h2
  rw [ers_len, hm] at h2
  have := h.tot
  exact ⟨hm, hl, hi, by omega, fun x hx => h.fit x (h1 x hx), fun x hx => h.long x (h1 x hx)⟩
end Go.Proofs.Ytcffpkflijpdjaa
namespace Go.Proofs.Ytcffpkflijpdjaa
open Go.RowKit
/-- Is the piece to end ahead of this entry? -/
def cutB (z : Int) (c : List Er) (x : Er) : Bool := decide (z ≤ c.length) && (match c.getLast? with | some y => !decide (y.1 = x.1) | none => false)
def stepC (z : Int) (s : List (List Er) × List Er) (x : Er) : List (List Er) × List Er := if cutB z s.2 x = true then (s.1 ++ [s.2], [x]) else (s.1, s.2 ++ [x])
def goC (z : Int) (L : List Er) : List (List Er) × List Er := L.foldl (stepC z) ([], [])
def finC (s : List (List Er) × List Er) : List (List Er) := if s.2 = [] then s.1 else s.1 ++ [s.2]
/-- The pieces. -/
def cutC (z : Int) (L : List Er) : List (List Er) := finC (goC z L)
theorem goC_nil (z : Int) : goC z [] = ([], []) := rfl
theorem goC_step {z : Int} {L : List Er} {i : Nat} {x : Er} (h : L[i]? = some x) : goC z (L.take (i + 1)) = stepC z (goC z (L.take i)) x := by
  unfold goC
  rw [List.take_add_one, h]
  simp [List.foldl_append]
theorem goC_one {z : Int} {L : List Er} {x : Er} (hz : 1 ≤ z) (h : L[0]? = some x) : goC z (L.take 1) = ([], [x]) := by
  have := goC_step (z := z) h
  rw [Nat.zero_add, List.take_zero, goC_nil] at this
  rw [this]
  unfold stepC cutB
  rw [decide_eq_false (by simp; omega)]
  rfl
theorem goC_last {z : Int} {L : List Er} {i : Nat} {x : Er} (h : L[i]? = some x) : ∃ c, (goC z (L.take (i + 1))).2 = c ++ [x] := by
  rw [goC_step h]
  unfold stepC
  split
  · exact ⟨[], rfl⟩
  · exact ⟨_, rfl⟩
theorem goC_all (z : Int) (L : List Er) : (goC z L).1.flatten ++ (goC z L).2 = L := by
  suffices h : ∀ (L : List Er) (s : List (List Er) × List Er), (L.foldl (stepC z) s).1.flatten ++ (L.foldl (stepC z) s).2 = s.1.flatten ++ s.2 ++ L by
    have := h L ([], [])
    simpa [goC] using this
  intro L
  induction L with
  | nil => intro s; simp
  | cons x L ih =>
    intro s
    rw [List.foldl_cons, ih]
    unfold stepC
    split <;> simp
theorem cutC_all (z : Int) (L : List Er) : (cutC z L).flatten = L := by
  have := goC_all z L
  unfold cutC finC
  split
  · next h => rw [h] at this; simpa using this
  · rw [List.flatten_append]; simpa using this
/-- What a cut is, at an entry and the next. -/
theorem goC_next {z : Int} {L : List Er} {i : Nat} {x y : Er} (hx : L[i]? = some x) (hy : L[i + 1]? = some y) : goC z (L.take (i + 2)) = if (decide (z ≤ (goC z (L.take (i + 1))).2.length) && !decide (x.1 = y.1)) = true then ((goC z (L.take (i + 1))).1 ++ [(goC z (L.take (i + 1))).2], [y]) else ((goC z (L.take (i + 1))).1, (goC z (L.take (i + 1))).2 ++ [y]) := by
  rw [goC_step hy]
  obtain ⟨c, hc⟩ := goC_last (z := z) hx
  unfold stepC cutB
  rw [hc]
  simp
theorem cutC_end {z : Int} {L : List Er} {i : Nat} {x : Er} (hx : L[i]? = some x) (hn : L.length = i + 1) : cutC z L = (goC z (L.take (i + 1))).1 ++ [(goC z (L.take (i + 1))).2] := by
  obtain ⟨c, hc⟩ := goC_last (z := z) hx
  have e : L.take (i + 1) = L := List.take_of_length_le (by omega)
  rw [e] at hc ⊢
  unfold cutC finC
  rw [if_neg (by rw [hc]; simp)]
theorem cutC_nil (z : Int) : cutC z [] = [] := rfl
end Go.Proofs.Ytcffpkflijpdjaa
namespace Go.Proofs.Ytcffpkflijpdjaa
open Go.RowKit
theorem slice_midE (A : Option Addr) (a b n c : Nat) (ha : a ≤ b) (hb : b ≤ n) (hc : n ≤ c) : ∀ W, (Instr.slice 22 (.slice A n c) (some (.int .i64 (a : Int))) (some (.int .i64 (b : Int))) none).run Try.prog W = .ok (.slice (if c = a then A else A.map (·.add (a * 4))) (b - a) (c - a)) W := fun W => by
  rw [run_slice_lh (P := Try.prog) W _ A n c underEn' .i64 .i64 (a : Int) (b : Int) (by omega) (by omega) (by omega), sizeEn']
  simp [Result.andThen, sliced]
theorem erow_made (w : World) : Erow (w.alloc (.cells #[] 26)) w.heap.size (some ⟨w.heap.size, 0, none⟩) 0 [] :=
  World.ownsRow_lit w #[] 0 (Nat.le_refl _) (Nat.zero_le _) rfl
set_option maxRecDepth 100000 in
theorem cloneE_any (A : Option Addr) (l : List En) (n c : Nat) (w : World) (hn : l.length = n) (h : Lies w A (evals l)) (hl : n * 64 ≤ 140737488355328) :
    Calls Try.prog 88 #[.slice A n c] w fun e w' => ∃ A' c', e = .returned (.slice A' n c') ∧ Erow w' w.heap.size A' c' l ∧ Below w.heap.size w w' := by
  subst hn
  cases A with
  | none =>
    have hL : l = [] := by
      rcases h with h | ⟨_, h, _⟩
      · have := congrArg List.length h; rw [evals_len] at this; exact List.eq_nil_of_length_eq_zero (by rw [List.length_nil] at this; omega)
      · cases h
    subst hL
    clear h hl
    rw [List.length_nil]
    have hnil := fun W => Go.Lib.run_eql_slice_nil_nil (P := Try.prog) W 0 c Try.underlying22
    go_enter Try.func88, Try.ntmps88
    go_wp2_with fail
    go_ret
    exact ⟨none, 0, rfl, Erow.nil _ _, Below.refl _ _⟩
  | some ad =>
    have HB : Hid (Lies (w.alloc (.cells #[] 26)) (some ad) (evals l)) := Lib.hid (Lies.kept h (below_new w _))
    have HL := Lib.hid hl
    have M0 := Lib.hid (erow_made w)
    have B0 := Lib.hid (below_new w (.cells #[] 26))
    obtain ⟨n, hn⟩ : ∃ n, l.length = n := ⟨_, rfl⟩
    have HN := Lib.hid hn
    rw [hn]
    clear h hl hn
    have hnil := fun W => Go.Lib.run_eql_slice_some_nil (P := Try.prog) W ad n c Try.underlying22
    go_enter Try.func88, Try.ntmps88
    go_wp2_with (at_builtin; refine wpList_append_erow _ rfl (.tmp 5) (.tmp 6) rfl w.heap.size _ 0 [] l _ 0 n c rfl rfl rfl HN.out M0.out HB.out (by simp) (by have := HL.out; have := HN.out; simp only [List.length_nil]; omega) ?_; intro A1 c1 w1 r1 b1 g1; have R1 := Lib.hid r1; have B1 := Lib.hid b1; clear r1 b1 g1)
    go_ret
    exact ⟨A1, c1, by simp, R1.out, B0.out.trans B1.out⟩
end Go.Proofs.Ytcffpkflijpdjaa
