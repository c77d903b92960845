/-
  Walks: entries brought in order, by the document: by halves.
-/
import Derived.Test.YtcffpkflijpdjaaCJ09
set_option linter.unusedSimpArgs false
set_option linter.unusedVariables false
namespace Go.Proofs.Ytcffpkflijpdjaa
open Go.RowKit
theorem slice_tailS (A : Option Addr) (n c : Nat) (h1 : 1 ≤ n) (hc : n ≤ c) : ∀ W, (Instr.slice 22 (.slice A n c) (some (.int .i64 1)) none none).run Try.prog W = .ok (.slice (if c = 1 then A else A.map (·.add (1 * 4))) (n - 1) (c - 1)) W := fun W => slice_lowS A 1 n c h1 hc W
theorem wrap_id {k : Int} (h : 0 ≤ k) (h9 : k < 9223372036854775808) : wrap64 k = k := by
  unfold wrap64
  omega
/-- A list as a loop holds it: empty, or its first entry lies. -/
theorem lies_first {w : World} {A : Option Addr} {l : List En} {n c : Nat} (h : Lies w A (evals l)) (hn : l.length = n) (hc : n ≤ c) (h9 : (c : Int) ≤ 9223372036854775807) : (l = [] ∧ n = 0) ∨ ∃ (x : En) (r : List En) (sa : Addr), l = x :: r ∧ A = some sa ∧ (∀ W, Below w.heap.size w W → AtE W sa x) ∧ 1 ≤ n ∧ n ≤ c ∧ (c : Int) ≤ 9223372036854775807 ∧ r.length + 1 = n ∧ Lies w (if c = 1 then some sa else (some sa).map (·.add (1 * 4))) (evals r) := by
  cases l with
  | nil => exact .inl ⟨rfl, hn.symm⟩
  | cons x r =>
    obtain ⟨sa, rfl, h0⟩ := lies_entry h (j := 0) rfl
    have e0 : sa.add (0 * 4) = sa := by obtain ⟨a, b, c⟩ := sa; rfl
    have hl : (x :: r).length = r.length + 1 := rfl
    refine .inr ⟨x, r, sa, rfl, rfl, fun W hW => ?_, by omega, hc, h9, by omega, ?_⟩
    · have := lies_entry_at (h.kept hW) (j := 0) (q := x) rfl
      rwa [e0] at this
    · exact lies_drop h 1 c (by omega)
set_option maxRecDepth 100000 in
set_option maxHeartbeats 16000000 in
theorem refSorted_any (N : Nat) : ∀ (A : Option Addr) (l : List En) (n c : Nat) (w : World), l.length = n → n ≤ N → n ≤ c → (c : Int) ≤ 9223372036854775807 → Lies w A (evals l) → EIns w l → n * 64 ≤ 140737488351232 → (∀ q ∈ l, q.k.l.length ≤ 281474976710656) →
    Calls Try.prog 25 #[.slice A n c] w (SrtE l w) := by
  induction N with
  | zero =>
    intro A l n c w hn hN hc h9 h hi hl hk
    obtain rfl : 0 = n := by omega
    obtain rfl : [] = l := (List.eq_nil_of_length_eq_zero hn).symm
    have HB := Lib.hid (And.intro h9 hc)
    clear h hi hk h9 hc hl
    go_enter Try.func25, Try.ntmps25
    go_wp2_with fail
    go_ret
    exact ⟨[], A, 0, c, rfl, rfl, Nat.zero_le _, HB.out.1, .inl rfl, List.Perm.refl _, List.Pairwise.nil, Below.refl _ _⟩
  | succ N ih =>
  intro A l n c w hn hN hc h9 h hi hl hk
  by_cases h2 : n < 2
  · have h2' : (n : Int) < 2 := by omega
    have HB := Lib.hid (And.intro h (And.intro hc (And.intro h9 (And.intro hn (pw_short (l := l) (by omega))))))
    clear h hi hk h9 hc hl hn ih hN
    go_enter Try.func25, Try.ntmps25
    go_wp2_with fail
    go_ret
    exact ⟨l, A, n, c, rfl, HB.out.2.2.2.1, HB.out.2.1, HB.out.2.2.1, HB.out.1, List.Perm.refl _, HB.out.2.2.2.2, Below.refl _ _⟩
  have h2' : ¬ (n : Int) < 2 := by omega
  obtain ⟨k, hk2⟩ : ∃ k, n / 2 = k := ⟨_, rfl⟩
  have hk1 : k ≤ n := by omega
  have q1 : (n : Int).tdiv 2 = (k : Int) := by rw [Int.tdiv_eq_ediv_of_nonneg (by omega)]; omega
  have q2 : wrap64 (k : Int) = (k : Int) := wrap_id (by omega) (by omega)
  have s1 := slice_highS A k n c hk1 hc
  obtain ⟨A2, hA2⟩ : ∃ A2, (if c = k then A else A.map (·.add (k * 4))) = A2 := ⟨_, rfl⟩
  obtain ⟨n2, hn2⟩ : ∃ n2, n - k = n2 := ⟨_, rfl⟩
  obtain ⟨c2, hc2⟩ : ∃ c2, c - k = c2 := ⟨_, rfl⟩
  have s2 := slice_lowS A k n c hk1 hc
  rw [hA2, hn2, hc2] at s2
  have HC1 : Hid (Calls Try.prog 25 #[.slice A k c] w (SrtE (l.take k) w)) := Lib.hid (ih A (l.take k) k c w (by rw [List.length_take]; omega) (by omega) (by omega) h9 (lies_take h k) (fun q hq => hi q (List.mem_of_mem_take hq)) (by omega) (fun q hq => hk q (List.mem_of_mem_take hq)))
  have HC2 : Hid (∀ W, Below w.heap.size w W → Calls Try.prog 25 #[.slice A2 n2 c2] W (SrtE (l.drop k) W)) := Lib.hid (fun W hW => ih A2 (l.drop k) n2 c2 W (by rw [List.length_drop]; omega) (by omega) (by omega) (by omega) (hA2 ▸ (lies_drop h k c (by omega)).kept hW) (fun q hq => (hi.kept hW) q (List.mem_of_mem_drop hq)) (by omega) (fun q hq => hk q (List.mem_of_mem_drop hq)))
  have HI := Lib.hid hi
  have HKL := Lib.hid hk
  have HTOT := Lib.hid hl
  have HN := Lib.hid hn
  clear ih h hi hk hl hn h9 hA2 hn2 hc2 hk2 hk1 hN hc h2
  go_enter Try.func25, Try.ntmps25
  go_upto_region 5 with (first
    | (go_at_call 25; refine Calls.mono HC1.out ?_; rintro e w1 ⟨La, Aa, na, ca, rfl, a1, a2, a3, a4, a5, a6, b1⟩; have H1 : Hid (La.length = na ∧ na ≤ ca ∧ (ca : Int) ≤ 9223372036854775807 ∧ Lies w1 Aa (evals La) ∧ La.Perm (l.take k) ∧ List.Pairwise leE (ers La) ∧ Below w.heap.size w w1) := Lib.hid ⟨a1, a2, a3, a4, a5, a6, b1⟩; clear a1 a2 a3 a4 a5 a6 b1 HC1)
    | (go_at_call 25; refine Calls.mono (HC2.out _ H1.out.2.2.2.2.2.2) ?_; rintro e w2 ⟨Lb, Ab, nb, cb, rfl, a1, a2, a3, a4, a5, a6, b1⟩; have H2 : Hid (Lb.length = nb ∧ nb ≤ cb ∧ (cb : Int) ≤ 9223372036854775807 ∧ Lies w2 Ab (evals Lb) ∧ Lb.Perm (l.drop k) ∧ List.Pairwise leE (ers Lb) ∧ Below w1.heap.size w1 w2) := Lib.hid ⟨a1, a2, a3, a4, a5, a6, b1⟩; clear a1 a2 a3 a4 a5 a6 b1 HC2))
  clear s1 s2 q1 q2 h2'
  have HST : Hid (InvS l [] La Lb ∧ Lies w2 Aa (evals La) ∧ Below w.heap.size w w2) := Lib.hid ⟨InvS.start (List.take_append_drop k l) H1.out.2.2.2.2.1 H2.out.2.2.2.2.1 H1.out.2.2.2.2.2.1 H2.out.2.2.2.2.2.1, H1.out.2.2.2.1.kept H2.out.2.2.2.2.2.2, H1.out.2.2.2.2.2.2.trans (H2.out.2.2.2.2.2.2.mono H1.out.2.2.2.2.2.2.size)⟩
  go_wp2_with fail
  go_loopw [3, 4, 5] (fun t3 t4 t5 wr => ∃ (la lb M : List En) (Aa : Option Addr) (na ca : Nat) (Ab : Option Addr) (nb cb : Nat) (Ao : Option Addr) (no co : Nat), t3 = .slice Aa na ca ∧ t4 = .slice Ab nb cb ∧ t5 = .slice Ao no co ∧ Hid (InvS l M la lb ∧ la.length = na ∧ lb.length = nb ∧ M.length = no ∧ Lies w2 Aa (evals la) ∧ Lies w2 Ab (evals lb) ∧ Erow wr w2.heap.size Ao co M ∧ Below w2.heap.size w2 wr ∧ (na ≤ ca ∧ (ca : Int) ≤ 9223372036854775807) ∧ nb ≤ cb ∧ (cb : Int) ≤ 9223372036854775807)) (fun t3 t4 _ _ => lenV t3 + lenV t4)
  case atStart => exact ⟨La, Lb, [], Aa, na, ca, Ab, nb, cb, none, 0, 0, rfl, rfl, rfl, Lib.hid ⟨HST.out.1, H1.out.1, H2.out.1, rfl, HST.out.2.1, H2.out.2.2.2.1, Erow.nil _ _, Below.refl _ _, ⟨H1.out.2.1, H1.out.2.2.1⟩, H2.out.2.1, H2.out.2.2.1⟩⟩
  case round =>
    clear H1 H2
    obtain ⟨la, lb, M, Aa, na, ca, Ab, nb, cb, Ao, no, co, rfl, rfl, rfl, H⟩ := hrel
    have HNO := Lib.hid H.out.2.2.2.1
    have HTOT2 : Hid (no + na + nb = n) := Lib.hid (by have := H.out.1.perm.length_eq; simp only [List.length_append] at this; have := H.out.2.1; have := H.out.2.2.1; have := HNO.out; have := HN.out; omega)
    rcases lies_first H.out.2.2.2.2.2.1 H.out.2.2.1 H.out.2.2.2.2.2.2.2.2.2.1 H.out.2.2.2.2.2.2.2.2.2.2 with ⟨rfl, rfl⟩ | ⟨y, rb, sb, rfl, rfl, htb⟩
    · rcases lies_first H.out.2.2.2.2.1 H.out.2.1 H.out.2.2.2.2.2.2.2.2.1.1 H.out.2.2.2.2.2.2.2.2.1.2 with ⟨rfl, rfl⟩ | ⟨x, ra, sa, rfl, rfl, hta⟩
      · have HCAP := Lib.hid (own_cap H.out.2.2.2.2.2.2.1)
        go_wp2_with fail
        go_ret
        exact ⟨M, Ao, no, co, rfl, HNO.out, by have := HCAP.out.1; have := HNO.out; omega, HCAP.out.2, H.out.2.2.2.2.2.2.1.lies, by have := H.out.1.perm; simpa using this, by have := H.out.1.one; simpa using this, HST.out.2.2.trans (H.out.2.2.2.2.2.2.2.1.mono HST.out.2.2.size)⟩
      · have HXA0 := Lib.hid (fun W (hW : Below wr.heap.size wr W) => hta.1 W (H.out.2.2.2.2.2.2.2.1.trans (hW.mono H.out.2.2.2.2.2.2.2.1.size)))
        have HTA := Lib.hid hta.2
        have na1 : (0 : Int) < na := by have := hta.2.1; omega
        have na0 : 0 < na := by have := hta.2.1; omega
        obtain ⟨xn, hxn⟩ : ∃ m, x.k.l.length = m := ⟨_, rfl⟩
        obtain ⟨xv, hxv⟩ : ∃ m, x.v.l.length = m := ⟨_, rfl⟩
        have HXL := Lib.hid (And.intro hxn hxv)
        have HXA : Hid (∀ W, Below wr.heap.size wr W → W.cell? sa = some (.slice x.k.a xn x.k.c) ∧ W.cell? ⟨sa.block, sa.off + 1, none⟩ = some (.int .i64 x.s) ∧ W.cell? ⟨sa.block, sa.off + 2, none⟩ = some (.bool x.d) ∧ W.cell? ⟨sa.block, sa.off + 3, none⟩ = some (.slice x.v.a xv x.v.c)) := Lib.hid (fun W hW => by have := HXA0.out W hW; unfold AtE at this; rwa [hxn, hxv] at this)
        clear hta hxn hxv HXA0
        have HXA9 := HXA
        go_upto_region 7 with fail
        refine wp_region_held (S := fun _ => True) (by kernel_rfl) ?_
        change wpAnyH _ _ _ _ _ _ _ _ (World.drew _)
        have s0 : (fun _ : World => True) wr.drew := trivial
        refine wpAnyH_take (i := 0) (v := .slice Ab 0 cb) rfl (by kernel_rfl) (by kernel_rfl) (by kernel_rfl) (fun _ _ _ h => h) (Or.inl ⟨by first | kernel_rfl | rfl, fun _ hS => by go_simp⟩) s0 ?_
        try simp only [Act.put, List.getElem_toArray, List.getElem_cons_zero, List.getElem_cons_succ, List.setIfInBounds_toArray, List.set_cons_zero, List.set_cons_succ]
        refine wpAnyH_take (i := 1) (v := .int .i64 0) rfl (by kernel_rfl) (by kernel_rfl) (by kernel_rfl) (fun _ _ _ h => h) (Or.inl ⟨by first | kernel_rfl | rfl, fun _ hS => by go_simp⟩) s0 ?_
        try simp only [Act.put, List.getElem_toArray, List.getElem_cons_zero, List.getElem_cons_succ, List.setIfInBounds_toArray, List.set_cons_zero, List.set_cons_succ]
        refine wpAnyH_take (i := 2) (v := .bool true) rfl (by kernel_rfl) (by kernel_rfl) (by kernel_rfl) (fun _ _ _ h => h) (Or.inl ⟨by first | kernel_rfl | rfl, fun _ hS => by go_simp⟩) s0 ?_
        try simp only [Act.put, List.getElem_toArray, List.getElem_cons_zero, List.getElem_cons_succ, List.setIfInBounds_toArray, List.set_cons_zero, List.set_cons_succ]
        refine wpAnyH_take (i := 3) (v := .bool true) rfl (by kernel_rfl) (by kernel_rfl) (by kernel_rfl) (fun _ _ _ h => h) (Or.inl ⟨by first | kernel_rfl | rfl, fun _ hS => by go_simp⟩) s0 ?_
        try simp only [Act.put, List.getElem_toArray, List.getElem_cons_zero, List.getElem_cons_succ, List.setIfInBounds_toArray, List.set_cons_zero, List.set_cons_succ]
        refine wpAnyH_take (i := 4) (v := undef) rfl (by kernel_rfl) (by kernel_rfl) (by kernel_rfl) (fun _ _ _ h => h) (Or.inr ⟨by first | kernel_rfl | rfl, rfl⟩) s0 ?_
        try simp only [Act.put, List.getElem_toArray, List.getElem_cons_zero, List.getElem_cons_succ, List.setIfInBounds_toArray, List.set_cons_zero, List.set_cons_succ]
        refine wpAnyH_take (i := 5) (v := undef) rfl (by kernel_rfl) (by kernel_rfl) (by kernel_rfl) (fun _ _ _ h => h) (Or.inr ⟨by first | kernel_rfl | rfl, rfl⟩) s0 ?_
        try simp only [Act.put, List.getElem_toArray, List.getElem_cons_zero, List.getElem_cons_succ, List.setIfInBounds_toArray, List.set_cons_zero, List.set_cons_succ]
        refine wpAnyH_take (i := 6) (v := undef) rfl (by kernel_rfl) (by kernel_rfl) (by kernel_rfl) (fun _ _ _ h => h) (Or.inr ⟨by first | kernel_rfl | rfl, rfl⟩) s0 ?_
        try simp only [Act.put, List.getElem_toArray, List.getElem_cons_zero, List.getElem_cons_succ, List.setIfInBounds_toArray, List.set_cons_zero, List.set_cons_succ]
        refine wpAnyH_take (i := 7) (v := undef) rfl (by kernel_rfl) (by kernel_rfl) (by kernel_rfl) (fun _ _ _ h => h) (Or.inr ⟨by first | kernel_rfl | rfl, rfl⟩) s0 ?_
        try simp only [Act.put, List.getElem_toArray, List.getElem_cons_zero, List.getElem_cons_succ, List.setIfInBounds_toArray, List.set_cons_zero, List.set_cons_succ]
        refine wpAnyH_take (i := 8) (v := undef) rfl (by kernel_rfl) (by kernel_rfl) (by kernel_rfl) (fun _ _ _ h => h) (Or.inr ⟨by first | kernel_rfl | rfl, rfl⟩) s0 ?_
        try simp only [Act.put, List.getElem_toArray, List.getElem_cons_zero, List.getElem_cons_succ, List.setIfInBounds_toArray, List.set_cons_zero, List.set_cons_succ]
        refine wpAnyH_take (i := 9) (v := undef) rfl (by kernel_rfl) (by kernel_rfl) (by kernel_rfl) (fun _ _ _ h => h) (Or.inr ⟨by first | kernel_rfl | rfl, rfl⟩) s0 ?_
        try simp only [Act.put, List.getElem_toArray, List.getElem_cons_zero, List.getElem_cons_succ, List.setIfInBounds_toArray, List.set_cons_zero, List.set_cons_succ]
        refine wpAnyH_take (i := 10) (v := undef) rfl (by kernel_rfl) (by kernel_rfl) (by kernel_rfl) (fun _ _ _ h => h) (Or.inr ⟨by first | kernel_rfl | rfl, rfl⟩) s0 ?_
        try simp only [Act.put, List.getElem_toArray, List.getElem_cons_zero, List.getElem_cons_succ, List.setIfInBounds_toArray, List.set_cons_zero, List.set_cons_succ]
        refine wpAnyH_take (i := 11) (v := undef) rfl (by kernel_rfl) (by kernel_rfl) (by kernel_rfl) (fun _ _ _ h => h) (Or.inr ⟨by first | kernel_rfl | rfl, rfl⟩) s0 ?_
        try simp only [Act.put, List.getElem_toArray, List.getElem_cons_zero, List.getElem_cons_succ, List.setIfInBounds_toArray, List.set_cons_zero, List.set_cons_succ]
        refine wpAnyH_take (i := 12) (v := undef) rfl (by kernel_rfl) (by kernel_rfl) (by kernel_rfl) (fun _ _ _ h => h) (Or.inr ⟨by first | kernel_rfl | rfl, rfl⟩) s0 ?_
        try simp only [Act.put, List.getElem_toArray, List.getElem_cons_zero, List.getElem_cons_succ, List.setIfInBounds_toArray, List.set_cons_zero, List.set_cons_succ]
        refine wpAnyH_take (i := 13) (v := undef) rfl (by kernel_rfl) (by kernel_rfl) (by kernel_rfl) (fun _ _ _ h => h) (Or.inr ⟨by first | kernel_rfl | rfl, rfl⟩) s0 ?_
        try simp only [Act.put, List.getElem_toArray, List.getElem_cons_zero, List.getElem_cons_succ, List.setIfInBounds_toArray, List.set_cons_zero, List.set_cons_succ]
        refine wpAnyH_take (i := 14) (v := undef) rfl (by kernel_rfl) (by kernel_rfl) (by kernel_rfl) (fun _ _ _ h => h) (Or.inr ⟨by first | kernel_rfl | rfl, rfl⟩) s0 ?_
        try simp only [Act.put, List.getElem_toArray, List.getElem_cons_zero, List.getElem_cons_succ, List.setIfInBounds_toArray, List.set_cons_zero, List.set_cons_succ]
        refine wpAnyH_take (i := 15) (v := undef) rfl (by kernel_rfl) (by kernel_rfl) (by kernel_rfl) (fun _ _ _ h => h) (Or.inr ⟨by first | kernel_rfl | rfl, rfl⟩) s0 ?_
        try simp only [Act.put, List.getElem_toArray, List.getElem_cons_zero, List.getElem_cons_succ, List.setIfInBounds_toArray, List.set_cons_zero, List.set_cons_succ]
        refine wpAnyH_take (i := 16) (v := undef) rfl (by kernel_rfl) (by kernel_rfl) (by kernel_rfl) (fun _ _ _ h => h) (Or.inr ⟨by first | kernel_rfl | rfl, rfl⟩) s0 ?_
        try simp only [Act.put, List.getElem_toArray, List.getElem_cons_zero, List.getElem_cons_succ, List.setIfInBounds_toArray, List.set_cons_zero, List.set_cons_succ]
        refine wpAnyH_take (i := 17) (v := .bool true) rfl (by kernel_rfl) (by kernel_rfl) (by kernel_rfl) (fun _ _ _ h => h) (Or.inl ⟨by first | kernel_rfl | rfl, fun _ hS => by go_simp⟩) s0 ?_
        try simp only [Act.put, List.getElem_toArray, List.getElem_cons_zero, List.getElem_cons_succ, List.setIfInBounds_toArray, List.set_cons_zero, List.set_cons_succ]
        refine wpAnyH_done (by kernel_rfl) ?_ _
        try simp only [Act.put, List.getElem_toArray, List.getElem_cons_zero, List.getElem_cons_succ, List.setIfInBounds_toArray, List.set_cons_zero, List.set_cons_succ]
        have B6 : Hid (Below wr.heap.size wr wr.drew) := Lib.hid (Below.refl _ _).drew
        generalize wr.drew = w6 at B6 ⊢
        have HE5 : Hid (Erow w6 w2.heap.size Ao co M ∧ Below w2.heap.size w2 w6) := Lib.hid ⟨H.out.2.2.2.2.2.2.1.kept B6.out (Nat.le_refl _), H.out.2.2.2.2.2.2.2.1.trans (B6.out.mono H.out.2.2.2.2.2.2.2.1.size)⟩
        obtain ⟨z0, z1, z2, z3⟩ := HXA.out w6 B6.out
        go_upto_region 9 with (at_builtin; refine wpList_append_erow _ (by rfl) (.tmp 48) (.tmp 52) (by rfl) w2.heap.size Ao co M [x] _ no 1 1 (by first | rfl | (simp [Act.eval]; done)) (by first | rfl | (simp [Act.eval]; done)) HNO.out rfl (HE5.out.1.alloc _) (lit_entry w6 x.k.a x.v.a x.k.c x.v.c x.k.l x.v.l x.s x.d xn xv HXL.out.1 HXL.out.2) (by have := HE5.out.2.size; first | omega | (simp only [World.size_alloc]; omega) | (simp; omega)) (by have := HNO.out; have := HTOT.out; have := HTOT2.out; have := HTA.out.1; simp only [List.length_singleton]; omega) ?_; intro A8 c8 w8 r8 b8 g8; have H8 : Hid (Erow w8 w2.heap.size A8 c8 (M ++ [x]) ∧ Below w2.heap.size w2 w8) := Lib.hid ⟨r8, (HE5.out.2.alloc HE5.out.2.size _).trans b8⟩; clear r8 b8 g8)
        clear z0 z1 z2 z3
        obtain ⟨n9, hn9⟩ : ∃ n9, na - 1 = n9 := ⟨_, rfl⟩
        obtain ⟨c9, hc9⟩ : ∃ c9, ca - 1 = c9 := ⟨_, rfl⟩
        obtain ⟨A9, hA9⟩ : ∃ A9, (if ca = 1 then some sa else (some sa).map (·.add (1 * 4))) = A9 := ⟨_, rfl⟩
        have sl := slice_tailS (some sa) na ca HTA.out.1 HTA.out.2.1
        have H9 : Hid (ra.length = n9 ∧ n9 ≤ c9 ∧ (c9 : Int) ≤ 9223372036854775807 ∧ Lies w2 A9 (evals ra)) := Lib.hid ⟨by have := HTA.out.2.2.2.1; omega, by have := HTA.out.2.1; omega, by have := HTA.out.2.2.1; omega, hA9 ▸ HTA.out.2.2.2.2⟩
        rw [hn9, hc9, hA9] at sl
        have HN9 : Hid (n9 + 1 = na) := Lib.hid (by have := HTA.out.1; omega)
        clear hn9 hc9 hA9
        go_wp2_with fail
        go_roundw
        case rel => exact ⟨ra, [], M ++ [x], A9, n9, c9, Ab, 0, cb, A8, no + 1, c8, rfl, rfl, rfl, Lib.hid ⟨H.out.1.left (fun y h => by cases h), H9.out.1, rfl, by rw [List.length_append, HNO.out]; rfl, H9.out.2.2.2, .inl rfl, H8.out.1, H8.out.2, ⟨H9.out.2.1, H9.out.2.2.1⟩, H.out.2.2.2.2.2.2.2.2.2⟩⟩
        case measure => have := HN9.out; simp [lenV]; omega
    · rcases lies_first H.out.2.2.2.2.1 H.out.2.1 H.out.2.2.2.2.2.2.2.2.1.1 H.out.2.2.2.2.2.2.2.2.1.2 with ⟨rfl, rfl⟩ | ⟨x, ra, sa, rfl, rfl, hta⟩
      · have HYB0 := Lib.hid (fun W (hW : Below wr.heap.size wr W) => htb.1 W (H.out.2.2.2.2.2.2.2.1.trans (hW.mono H.out.2.2.2.2.2.2.2.1.size)))
        have HTB := Lib.hid htb.2
        have nb1 : (0 : Int) < nb := by have := htb.2.1; omega
        have nb0 : 0 < nb := by have := htb.2.1; omega
        have nb2 : ((nb : Int) == 0) = false := by have := htb.2.1; simp; omega
        obtain ⟨yn, hyn⟩ : ∃ m, y.k.l.length = m := ⟨_, rfl⟩
        obtain ⟨yv, hyv⟩ : ∃ m, y.v.l.length = m := ⟨_, rfl⟩
        have HYL := Lib.hid (And.intro hyn hyv)
        have HYB : Hid (∀ W, Below wr.heap.size wr W → W.cell? sb = some (.slice y.k.a yn y.k.c) ∧ W.cell? ⟨sb.block, sb.off + 1, none⟩ = some (.int .i64 y.s) ∧ W.cell? ⟨sb.block, sb.off + 2, none⟩ = some (.bool y.d) ∧ W.cell? ⟨sb.block, sb.off + 3, none⟩ = some (.slice y.v.a yv y.v.c)) := Lib.hid (fun W hW => by have := HYB0.out W hW; unfold AtE at this; rwa [hyn, hyv] at this)
        clear htb hyn hyv HYB0
        go_upto_region 7 with fail
        refine wp_region_held (S := fun _ => True) (by kernel_rfl) ?_
        change wpAnyH _ _ _ _ _ _ _ _ (World.drew _)
        have s0 : (fun _ : World => True) wr.drew := trivial
        refine wpAnyH_take (i := 0) (v := .slice (some sb) nb cb) rfl (by kernel_rfl) (by kernel_rfl) (by kernel_rfl) (fun _ _ _ h => h) (Or.inl ⟨by first | kernel_rfl | rfl, fun _ hS => by go_simp⟩) s0 ?_
        try simp only [Act.put, List.getElem_toArray, List.getElem_cons_zero, List.getElem_cons_succ, List.setIfInBounds_toArray, List.set_cons_zero, List.set_cons_succ]
        refine wpAnyH_take (i := 1) (v := .int .i64 (nb : Int)) rfl (by kernel_rfl) (by kernel_rfl) (by kernel_rfl) (fun _ _ _ h => h) (Or.inl ⟨by first | kernel_rfl | rfl, fun _ hS => by go_simp⟩) s0 ?_
        try simp only [Act.put, List.getElem_toArray, List.getElem_cons_zero, List.getElem_cons_succ, List.setIfInBounds_toArray, List.set_cons_zero, List.set_cons_succ]
        refine wpAnyH_take (i := 2) (v := .bool false) rfl (by kernel_rfl) (by kernel_rfl) (by kernel_rfl) (fun _ _ _ h => h) (Or.inl ⟨by first | kernel_rfl | rfl, fun _ hS => by go_simp⟩) s0 ?_
        try simp only [Act.put, List.getElem_toArray, List.getElem_cons_zero, List.getElem_cons_succ, List.setIfInBounds_toArray, List.set_cons_zero, List.set_cons_succ]
        refine wpAnyH_take (i := 3) (v := .bool false) rfl (by kernel_rfl) (by kernel_rfl) (by kernel_rfl) (fun _ _ _ h => h) (Or.inl ⟨by first | kernel_rfl | rfl, fun _ hS => by go_simp⟩) s0 ?_
        try simp only [Act.put, List.getElem_toArray, List.getElem_cons_zero, List.getElem_cons_succ, List.setIfInBounds_toArray, List.set_cons_zero, List.set_cons_succ]
        refine wpAnyH_take (i := 4) (v := .slice Aa 0 ca) rfl (by kernel_rfl) (by kernel_rfl) (by kernel_rfl) (fun _ _ _ h => h) (Or.inl ⟨by first | kernel_rfl | rfl, fun _ hS => by go_simp⟩) s0 ?_
        try simp only [Act.put, List.getElem_toArray, List.getElem_cons_zero, List.getElem_cons_succ, List.setIfInBounds_toArray, List.set_cons_zero, List.set_cons_succ]
        refine wpAnyH_take (i := 5) (v := .int .i64 0) rfl (by kernel_rfl) (by kernel_rfl) (by kernel_rfl) (fun _ _ _ h => h) (Or.inl ⟨by first | kernel_rfl | rfl, fun _ hS => by go_simp⟩) s0 ?_
        try simp only [Act.put, List.getElem_toArray, List.getElem_cons_zero, List.getElem_cons_succ, List.setIfInBounds_toArray, List.set_cons_zero, List.set_cons_succ]
        refine wpAnyH_take (i := 6) (v := .bool false) rfl (by kernel_rfl) (by kernel_rfl) (by kernel_rfl) (fun _ _ _ h => h) (Or.inl ⟨by first | kernel_rfl | rfl, fun _ hS => by go_simp⟩) s0 ?_
        try simp only [Act.put, List.getElem_toArray, List.getElem_cons_zero, List.getElem_cons_succ, List.setIfInBounds_toArray, List.set_cons_zero, List.set_cons_succ]
        refine wpAnyH_take (i := 7) (v := .bool false) rfl (by kernel_rfl) (by kernel_rfl) (by kernel_rfl) (fun _ _ _ h => h) (Or.inl ⟨by first | kernel_rfl | rfl, fun _ hS => by go_simp⟩) s0 ?_
        try simp only [Act.put, List.getElem_toArray, List.getElem_cons_zero, List.getElem_cons_succ, List.setIfInBounds_toArray, List.set_cons_zero, List.set_cons_succ]
        refine wpAnyH_take (i := 8) (v := undef) rfl (by kernel_rfl) (by kernel_rfl) (by kernel_rfl) (fun _ _ _ h => h) (Or.inr ⟨by first | kernel_rfl | rfl, rfl⟩) s0 ?_
        try simp only [Act.put, List.getElem_toArray, List.getElem_cons_zero, List.getElem_cons_succ, List.setIfInBounds_toArray, List.set_cons_zero, List.set_cons_succ]
        refine wpAnyH_take (i := 9) (v := undef) rfl (by kernel_rfl) (by kernel_rfl) (by kernel_rfl) (fun _ _ _ h => h) (Or.inr ⟨by first | kernel_rfl | rfl, rfl⟩) s0 ?_
        try simp only [Act.put, List.getElem_toArray, List.getElem_cons_zero, List.getElem_cons_succ, List.setIfInBounds_toArray, List.set_cons_zero, List.set_cons_succ]
        refine wpAnyH_take (i := 10) (v := undef) rfl (by kernel_rfl) (by kernel_rfl) (by kernel_rfl) (fun _ _ _ h => h) (Or.inr ⟨by first | kernel_rfl | rfl, rfl⟩) s0 ?_
        try simp only [Act.put, List.getElem_toArray, List.getElem_cons_zero, List.getElem_cons_succ, List.setIfInBounds_toArray, List.set_cons_zero, List.set_cons_succ]
        refine wpAnyH_take (i := 11) (v := undef) rfl (by kernel_rfl) (by kernel_rfl) (by kernel_rfl) (fun _ _ _ h => h) (Or.inr ⟨by first | kernel_rfl | rfl, rfl⟩) s0 ?_
        try simp only [Act.put, List.getElem_toArray, List.getElem_cons_zero, List.getElem_cons_succ, List.setIfInBounds_toArray, List.set_cons_zero, List.set_cons_succ]
        refine wpAnyH_take (i := 12) (v := undef) rfl (by kernel_rfl) (by kernel_rfl) (by kernel_rfl) (fun _ _ _ h => h) (Or.inr ⟨by first | kernel_rfl | rfl, rfl⟩) s0 ?_
        try simp only [Act.put, List.getElem_toArray, List.getElem_cons_zero, List.getElem_cons_succ, List.setIfInBounds_toArray, List.set_cons_zero, List.set_cons_succ]
        refine wpAnyH_take (i := 13) (v := undef) rfl (by kernel_rfl) (by kernel_rfl) (by kernel_rfl) (fun _ _ _ h => h) (Or.inr ⟨by first | kernel_rfl | rfl, rfl⟩) s0 ?_
        try simp only [Act.put, List.getElem_toArray, List.getElem_cons_zero, List.getElem_cons_succ, List.setIfInBounds_toArray, List.set_cons_zero, List.set_cons_succ]
        refine wpAnyH_take (i := 14) (v := undef) rfl (by kernel_rfl) (by kernel_rfl) (by kernel_rfl) (fun _ _ _ h => h) (Or.inr ⟨by first | kernel_rfl | rfl, rfl⟩) s0 ?_
        try simp only [Act.put, List.getElem_toArray, List.getElem_cons_zero, List.getElem_cons_succ, List.setIfInBounds_toArray, List.set_cons_zero, List.set_cons_succ]
        refine wpAnyH_take (i := 15) (v := undef) rfl (by kernel_rfl) (by kernel_rfl) (by kernel_rfl) (fun _ _ _ h => h) (Or.inr ⟨by first | kernel_rfl | rfl, rfl⟩) s0 ?_
        try simp only [Act.put, List.getElem_toArray, List.getElem_cons_zero, List.getElem_cons_succ, List.setIfInBounds_toArray, List.set_cons_zero, List.set_cons_succ]
        refine wpAnyH_take (i := 16) (v := .bool false) rfl (by kernel_rfl) (by kernel_rfl) (by kernel_rfl) (fun _ _ _ h => h) (Or.inl ⟨by first | kernel_rfl | rfl, fun _ hS => by go_simp⟩) s0 ?_
        try simp only [Act.put, List.getElem_toArray, List.getElem_cons_zero, List.getElem_cons_succ, List.setIfInBounds_toArray, List.set_cons_zero, List.set_cons_succ]
        refine wpAnyH_take (i := 17) (v := .bool false) rfl (by kernel_rfl) (by kernel_rfl) (by kernel_rfl) (fun _ _ _ h => h) (Or.inl ⟨by first | kernel_rfl | rfl, fun _ hS => by go_simp⟩) s0 ?_
        try simp only [Act.put, List.getElem_toArray, List.getElem_cons_zero, List.getElem_cons_succ, List.setIfInBounds_toArray, List.set_cons_zero, List.set_cons_succ]
        refine wpAnyH_done (by kernel_rfl) ?_ _
        try simp only [Act.put, List.getElem_toArray, List.getElem_cons_zero, List.getElem_cons_succ, List.setIfInBounds_toArray, List.set_cons_zero, List.set_cons_succ]
        have B6 : Hid (Below wr.heap.size wr wr.drew) := Lib.hid (Below.refl _ _).drew
        generalize wr.drew = w6 at B6 ⊢
        have HE5 : Hid (Erow w6 w2.heap.size Ao co M ∧ Below w2.heap.size w2 w6) := Lib.hid ⟨H.out.2.2.2.2.2.2.1.kept B6.out (Nat.le_refl _), H.out.2.2.2.2.2.2.2.1.trans (B6.out.mono H.out.2.2.2.2.2.2.2.1.size)⟩
        obtain ⟨z0, z1, z2, z3⟩ := HYB.out w6 B6.out
        go_upto_region 11 with (at_builtin; refine wpList_append_erow _ (by rfl) (.tmp 56) (.tmp 60) (by rfl) w2.heap.size Ao co M [y] _ no 1 1 (by first | rfl | (simp [Act.eval]; done)) (by first | rfl | (simp [Act.eval]; done)) HNO.out rfl (HE5.out.1.alloc _) (lit_entry w6 y.k.a y.v.a y.k.c y.v.c y.k.l y.v.l y.s y.d yn yv HYL.out.1 HYL.out.2) (by have := HE5.out.2.size; first | omega | (simp only [World.size_alloc]; omega) | (simp; omega)) (by have := HNO.out; have := HTOT.out; have := HTOT2.out; have := HTB.out.1; simp only [List.length_singleton]; omega) ?_; intro A8 c8 w8 r8 b8 g8; have H8 : Hid (Erow w8 w2.heap.size A8 c8 (M ++ [y]) ∧ Below w2.heap.size w2 w8) := Lib.hid ⟨r8, (HE5.out.2.alloc HE5.out.2.size _).trans b8⟩; clear r8 b8 g8)
        clear z0 z1 z2 z3
        obtain ⟨n9, hn9⟩ : ∃ n9, nb - 1 = n9 := ⟨_, rfl⟩
        obtain ⟨c9, hc9⟩ : ∃ c9, cb - 1 = c9 := ⟨_, rfl⟩
        obtain ⟨A9, hA9⟩ : ∃ A9, (if cb = 1 then some sb else (some sb).map (·.add (1 * 4))) = A9 := ⟨_, rfl⟩
        have sl := slice_tailS (some sb) nb cb HTB.out.1 HTB.out.2.1
        have H9 : Hid (rb.length = n9 ∧ n9 ≤ c9 ∧ (c9 : Int) ≤ 9223372036854775807 ∧ Lies w2 A9 (evals rb)) := Lib.hid ⟨by have := HTB.out.2.2.2.1; omega, by have := HTB.out.2.1; omega, by have := HTB.out.2.2.1; omega, hA9 ▸ HTB.out.2.2.2.2⟩
        rw [hn9, hc9, hA9] at sl
        have HN9 : Hid (n9 + 1 = nb) := Lib.hid (by have := HTB.out.1; omega)
        clear hn9 hc9 hA9
        go_wp2_with fail
        go_roundw
        case rel => exact ⟨[], rb, M ++ [y], Aa, 0, ca, A9, n9, c9, A8, no + 1, c8, rfl, rfl, rfl, Lib.hid ⟨H.out.1.right (fun y h => by cases h), rfl, H9.out.1, by rw [List.length_append, HNO.out]; rfl, .inl rfl, H9.out.2.2.2, H8.out.1, H8.out.2, H.out.2.2.2.2.2.2.2.2.1, H9.out.2.1, H9.out.2.2.1⟩⟩
        case measure => have := HN9.out; simp [lenV]; omega
      · have HXA0 := Lib.hid (fun W (hW : Below wr.heap.size wr W) => hta.1 W (H.out.2.2.2.2.2.2.2.1.trans (hW.mono H.out.2.2.2.2.2.2.2.1.size)))
        have HTA := Lib.hid hta.2
        have na1 : (0 : Int) < na := by have := hta.2.1; omega
        have na0 : 0 < na := by have := hta.2.1; omega
        obtain ⟨xn, hxn⟩ : ∃ m, x.k.l.length = m := ⟨_, rfl⟩
        obtain ⟨xv, hxv⟩ : ∃ m, x.v.l.length = m := ⟨_, rfl⟩
        have HXL := Lib.hid (And.intro hxn hxv)
        have HXA : Hid (∀ W, Below wr.heap.size wr W → W.cell? sa = some (.slice x.k.a xn x.k.c) ∧ W.cell? ⟨sa.block, sa.off + 1, none⟩ = some (.int .i64 x.s) ∧ W.cell? ⟨sa.block, sa.off + 2, none⟩ = some (.bool x.d) ∧ W.cell? ⟨sa.block, sa.off + 3, none⟩ = some (.slice x.v.a xv x.v.c)) := Lib.hid (fun W hW => by have := HXA0.out W hW; unfold AtE at this; rwa [hxn, hxv] at this)
        have HYB0 := Lib.hid (fun W (hW : Below wr.heap.size wr W) => htb.1 W (H.out.2.2.2.2.2.2.2.1.trans (hW.mono H.out.2.2.2.2.2.2.2.1.size)))
        have HTB := Lib.hid htb.2
        have nb1 : (0 : Int) < nb := by have := htb.2.1; omega
        have nb0 : 0 < nb := by have := htb.2.1; omega
        have nb2 : ((nb : Int) == 0) = false := by have := htb.2.1; simp; omega
        obtain ⟨yn, hyn⟩ : ∃ m, y.k.l.length = m := ⟨_, rfl⟩
        obtain ⟨yv, hyv⟩ : ∃ m, y.v.l.length = m := ⟨_, rfl⟩
        have HYL := Lib.hid (And.intro hyn hyv)
        have HYB : Hid (∀ W, Below wr.heap.size wr W → W.cell? sb = some (.slice y.k.a yn y.k.c) ∧ W.cell? ⟨sb.block, sb.off + 1, none⟩ = some (.int .i64 y.s) ∧ W.cell? ⟨sb.block, sb.off + 2, none⟩ = some (.bool y.d) ∧ W.cell? ⟨sb.block, sb.off + 3, none⟩ = some (.slice y.v.a yv y.v.c)) := Lib.hid (fun W hW => by have := HYB0.out W hW; unfold AtE at this; rwa [hyn, hyv] at this)
        have HMEM : Hid (x ∈ l ∧ y ∈ l) := Lib.hid ⟨H.out.1.perm.mem_iff.1 (by simp), H.out.1.perm.mem_iff.1 (by simp)⟩
        have HSC : Hid (∀ V, Below wr.heap.size wr V → (V.cell? sa = some (.slice x.k.a xn x.k.c) ∧ V.cell? ⟨sa.block, sa.off + 1, none⟩ = some (.int .i64 x.s) ∧ V.cell? ⟨sa.block, sa.off + 2, none⟩ = some (.bool x.d) ∧ V.cell? ⟨sa.block, sa.off + 3, none⟩ = some (.slice x.v.a xv x.v.c)) ∧ V.cell? sb = some (.slice y.k.a yn y.k.c) ∧ V.cell? ⟨sb.block, sb.off + 1, none⟩ = some (.int .i64 y.s) ∧ V.cell? ⟨sb.block, sb.off + 2, none⟩ = some (.bool y.d) ∧ V.cell? ⟨sb.block, sb.off + 3, none⟩ = some (.slice y.v.a yv y.v.c)) := Lib.hid (fun V hV => ⟨HXA.out V hV, HYB.out V hV⟩)
        have HWR : Hid (Below w.heap.size w wr) := Lib.hid (HST.out.2.2.trans (H.out.2.2.2.2.2.2.2.1.mono HST.out.2.2.size))
        obtain ⟨o, ho⟩ : ∃ o, ordE x.rd y.rd = o := ⟨_, rfl⟩
        have HOR : Hid (∀ V, Below wr.heap.size wr V → Calls Try.prog 57 #[.agg #[.slice x.k.a xn x.k.c, .int .i64 x.s, .bool x.d, .slice x.v.a xv x.v.c], .agg #[.slice y.k.a yn y.k.c, .int .i64 y.s, .bool y.d, .slice y.v.a yv y.v.c]] V fun e w' => e = .returned (.int .i64 o) ∧ Below V.heap.size V w') := Lib.hid (fun V hV => by
          have hb : Below w.heap.size w V := HWR.out.trans (hV.mono HWR.out.size)
          have := refCmp_any x y V ((HI.out.kept hb) x HMEM.out.1) ((HI.out.kept hb) y HMEM.out.2) (HKL.out x HMEM.out.1) (HKL.out y HMEM.out.2)
          rwa [En.val_eq, En.val_eq, hxn, hxv, hyn, hyv, ho] at this)
        have HOO := Lib.hid ho
        clear hta htb hxn hxv hyn hyv HXA0 HYB0 ho
        go_upto_region 7 with fail
        by_cases hle : o ≤ 0
        · have d0 : decide (o ≤ 0) = true := decide_eq_true hle
          have HLE : Hid (leE x.rd y.rd) := Lib.hid (by unfold leE; rw [HOO.out]; exact hle)
          clear hle
          refine wp_region_held (S := fun V => (V.cell? sa = some (.slice x.k.a xn x.k.c) ∧ V.cell? ⟨sa.block, sa.off + 1, none⟩ = some (.int .i64 x.s) ∧ V.cell? ⟨sa.block, sa.off + 2, none⟩ = some (.bool x.d) ∧ V.cell? ⟨sa.block, sa.off + 3, none⟩ = some (.slice x.v.a xv x.v.c)) ∧ V.cell? sb = some (.slice y.k.a yn y.k.c) ∧ V.cell? ⟨sb.block, sb.off + 1, none⟩ = some (.int .i64 y.s) ∧ V.cell? ⟨sb.block, sb.off + 2, none⟩ = some (.bool y.d) ∧ V.cell? ⟨sb.block, sb.off + 3, none⟩ = some (.slice y.v.a yv y.v.c)) (by kernel_rfl) ?_
          change wpAnyH _ _ _ _ _ _ _ _ (World.drew _)
          have s0 := HSC.out _ (Below.refl _ _).drew
          refine wpAnyH_take (i := 0) (v := .slice (some sb) nb cb) rfl (by kernel_rfl) (by kernel_rfl) (by kernel_rfl) (fun _ _ _ h => h) (Or.inl ⟨by first | kernel_rfl | rfl, fun _ hS => by go_simp⟩) s0 ?_
          try simp only [Act.put, List.getElem_toArray, List.getElem_cons_zero, List.getElem_cons_succ, List.setIfInBounds_toArray, List.set_cons_zero, List.set_cons_succ]
          refine wpAnyH_take (i := 1) (v := .int .i64 (nb : Int)) rfl (by kernel_rfl) (by kernel_rfl) (by kernel_rfl) (fun _ _ _ h => h) (Or.inl ⟨by first | kernel_rfl | rfl, fun _ hS => by go_simp⟩) s0 ?_
          try simp only [Act.put, List.getElem_toArray, List.getElem_cons_zero, List.getElem_cons_succ, List.setIfInBounds_toArray, List.set_cons_zero, List.set_cons_succ]
          refine wpAnyH_take (i := 2) (v := .bool false) rfl (by kernel_rfl) (by kernel_rfl) (by kernel_rfl) (fun _ _ _ h => h) (Or.inl ⟨by first | kernel_rfl | rfl, fun _ hS => by go_simp⟩) s0 ?_
          try simp only [Act.put, List.getElem_toArray, List.getElem_cons_zero, List.getElem_cons_succ, List.setIfInBounds_toArray, List.set_cons_zero, List.set_cons_succ]
          refine wpAnyH_take (i := 3) (v := .bool false) rfl (by kernel_rfl) (by kernel_rfl) (by kernel_rfl) (fun _ _ _ h => h) (Or.inl ⟨by first | kernel_rfl | rfl, fun _ hS => by go_simp⟩) s0 ?_
          try simp only [Act.put, List.getElem_toArray, List.getElem_cons_zero, List.getElem_cons_succ, List.setIfInBounds_toArray, List.set_cons_zero, List.set_cons_succ]
          refine wpAnyH_take (i := 4) (v := .slice (some sa) na ca) rfl (by kernel_rfl) (by kernel_rfl) (by kernel_rfl) (fun _ _ _ h => h) (Or.inl ⟨by first | kernel_rfl | rfl, fun _ hS => by go_simp⟩) s0 ?_
          try simp only [Act.put, List.getElem_toArray, List.getElem_cons_zero, List.getElem_cons_succ, List.setIfInBounds_toArray, List.set_cons_zero, List.set_cons_succ]
          refine wpAnyH_take (i := 5) (v := .int .i64 (na : Int)) rfl (by kernel_rfl) (by kernel_rfl) (by kernel_rfl) (fun _ _ _ h => h) (Or.inl ⟨by first | kernel_rfl | rfl, fun _ hS => by go_simp⟩) s0 ?_
          try simp only [Act.put, List.getElem_toArray, List.getElem_cons_zero, List.getElem_cons_succ, List.setIfInBounds_toArray, List.set_cons_zero, List.set_cons_succ]
          refine wpAnyH_take (i := 6) (v := .bool true) rfl (by kernel_rfl) (by kernel_rfl) (by kernel_rfl) (fun _ _ _ h => h) (Or.inl ⟨by first | kernel_rfl | rfl, fun _ hS => by go_simp⟩) s0 ?_
          try simp only [Act.put, List.getElem_toArray, List.getElem_cons_zero, List.getElem_cons_succ, List.setIfInBounds_toArray, List.set_cons_zero, List.set_cons_succ]
          refine wpAnyH_take (i := 7) (v := .bool true) rfl (by kernel_rfl) (by kernel_rfl) (by kernel_rfl) (fun _ _ _ h => h) (Or.inl ⟨by first | kernel_rfl | rfl, fun _ hS => by go_simp⟩) s0 ?_
          try simp only [Act.put, List.getElem_toArray, List.getElem_cons_zero, List.getElem_cons_succ, List.setIfInBounds_toArray, List.set_cons_zero, List.set_cons_succ]
          refine wpAnyH_take (i := 8) (v := .slice (some sa) na ca) rfl (by kernel_rfl) (by kernel_rfl) (by kernel_rfl) (fun _ _ _ h => h) (Or.inl ⟨by first | kernel_rfl | rfl, fun _ hS => by go_simp⟩) s0 ?_
          try simp only [Act.put, List.getElem_toArray, List.getElem_cons_zero, List.getElem_cons_succ, List.setIfInBounds_toArray, List.set_cons_zero, List.set_cons_succ]
          refine wpAnyH_take (i := 9) (v := .pointer (some sa)) rfl (by kernel_rfl) (by kernel_rfl) (by kernel_rfl) (fun _ _ _ h => h) (Or.inl ⟨by first | kernel_rfl | rfl, fun _ hS => by go_simp⟩) s0 ?_
          try simp only [Act.put, List.getElem_toArray, List.getElem_cons_zero, List.getElem_cons_succ, List.setIfInBounds_toArray, List.set_cons_zero, List.set_cons_succ]
          refine wpAnyH_take (i := 10) (v := .agg #[.slice x.k.a xn x.k.c, .int .i64 x.s, .bool x.d, .slice x.v.a xv x.v.c]) rfl (by kernel_rfl) (by kernel_rfl) (by kernel_rfl) (fun _ _ _ h => h) (Or.inl ⟨by first | kernel_rfl | rfl, fun _ hS => by obtain ⟨⟨k1, k2, k3, k4⟩, k5, k6, k7, k8⟩ := hS; go_simp⟩) s0 ?_
          try simp only [Act.put, List.getElem_toArray, List.getElem_cons_zero, List.getElem_cons_succ, List.setIfInBounds_toArray, List.set_cons_zero, List.set_cons_succ]
          refine wpAnyH_take (i := 11) (v := .slice (some sb) nb cb) rfl (by kernel_rfl) (by kernel_rfl) (by kernel_rfl) (fun _ _ _ h => h) (Or.inl ⟨by first | kernel_rfl | rfl, fun _ hS => by go_simp⟩) s0 ?_
          try simp only [Act.put, List.getElem_toArray, List.getElem_cons_zero, List.getElem_cons_succ, List.setIfInBounds_toArray, List.set_cons_zero, List.set_cons_succ]
          refine wpAnyH_take (i := 12) (v := .pointer (some sb)) rfl (by kernel_rfl) (by kernel_rfl) (by kernel_rfl) (fun _ _ _ h => h) (Or.inl ⟨by first | kernel_rfl | rfl, fun _ hS => by go_simp⟩) s0 ?_
          try simp only [Act.put, List.getElem_toArray, List.getElem_cons_zero, List.getElem_cons_succ, List.setIfInBounds_toArray, List.set_cons_zero, List.set_cons_succ]
          refine wpAnyH_take (i := 13) (v := .agg #[.slice y.k.a yn y.k.c, .int .i64 y.s, .bool y.d, .slice y.v.a yv y.v.c]) rfl (by kernel_rfl) (by kernel_rfl) (by kernel_rfl) (fun _ _ _ h => h) (Or.inl ⟨by first | kernel_rfl | rfl, fun _ hS => by obtain ⟨⟨k1, k2, k3, k4⟩, k5, k6, k7, k8⟩ := hS; go_simp⟩) s0 ?_
          try simp only [Act.put, List.getElem_toArray, List.getElem_cons_zero, List.getElem_cons_succ, List.setIfInBounds_toArray, List.set_cons_zero, List.set_cons_succ]
          refine wpAnyH_ready (rs := [14]) (by kernel_rfl) (by simp) ?_
          refine AllReadyH.cons rfl (fun K hK => ?_) AllReadyH.nil
          go_simp
          go_at_call 57
          refine (HOR.out _ (Below.refl _ _).drew).mono ?_
          rintro e w6 ⟨rfl, b6⟩
          have B6 : Hid (Below wr.heap.size wr w6) := Lib.hid (below_then (Below.refl _ _).drew b6)
          clear b6
          refine hK.out _ _ (HSC.out _ B6.out) (fun _ => ?_)
          clear hK K
          try simp only [Act.put, List.getElem_toArray, List.getElem_cons_zero, List.getElem_cons_succ, List.setIfInBounds_toArray, List.set_cons_zero, List.set_cons_succ]
          have s1 := HSC.out _ B6.out
          refine wpAnyH_take (i := 15) (v := .bool true) rfl (by kernel_rfl) (by kernel_rfl) (by kernel_rfl) (fun _ _ _ h => h) (Or.inl ⟨by first | kernel_rfl | rfl, fun _ hS => by go_simp⟩) s1 ?_
          try simp only [Act.put, List.getElem_toArray, List.getElem_cons_zero, List.getElem_cons_succ, List.setIfInBounds_toArray, List.set_cons_zero, List.set_cons_succ]
          refine wpAnyH_take (i := 16) (v := .bool true) rfl (by kernel_rfl) (by kernel_rfl) (by kernel_rfl) (fun _ _ _ h => h) (Or.inl ⟨by first | kernel_rfl | rfl, fun _ hS => by go_simp⟩) s1 ?_
          try simp only [Act.put, List.getElem_toArray, List.getElem_cons_zero, List.getElem_cons_succ, List.setIfInBounds_toArray, List.set_cons_zero, List.set_cons_succ]
          refine wpAnyH_take (i := 17) (v := .bool true) rfl (by kernel_rfl) (by kernel_rfl) (by kernel_rfl) (fun _ _ _ h => h) (Or.inl ⟨by first | kernel_rfl | rfl, fun _ hS => by go_simp⟩) s1 ?_
          try simp only [Act.put, List.getElem_toArray, List.getElem_cons_zero, List.getElem_cons_succ, List.setIfInBounds_toArray, List.set_cons_zero, List.set_cons_succ]
          refine wpAnyH_done (by kernel_rfl) ?_ _
          try simp only [Act.put, List.getElem_toArray, List.getElem_cons_zero, List.getElem_cons_succ, List.setIfInBounds_toArray, List.set_cons_zero, List.set_cons_succ]
          have HE5 : Hid (Erow w6 w2.heap.size Ao co M ∧ Below w2.heap.size w2 w6) := Lib.hid ⟨H.out.2.2.2.2.2.2.1.kept B6.out (Nat.le_refl _), H.out.2.2.2.2.2.2.2.1.trans (B6.out.mono H.out.2.2.2.2.2.2.2.1.size)⟩
          obtain ⟨z0, z1, z2, z3⟩ := HXA.out w6 B6.out
          go_upto_region 9 with (at_builtin; refine wpList_append_erow _ (by rfl) (.tmp 48) (.tmp 52) (by rfl) w2.heap.size Ao co M [x] _ no 1 1 (by first | rfl | (simp [Act.eval]; done)) (by first | rfl | (simp [Act.eval]; done)) HNO.out rfl (HE5.out.1.alloc _) (lit_entry w6 x.k.a x.v.a x.k.c x.v.c x.k.l x.v.l x.s x.d xn xv HXL.out.1 HXL.out.2) (by have := HE5.out.2.size; first | omega | (simp only [World.size_alloc]; omega) | (simp; omega)) (by have := HNO.out; have := HTOT.out; have := HTOT2.out; have := HTA.out.1; simp only [List.length_singleton]; omega) ?_; intro A8 c8 w8 r8 b8 g8; have H8 : Hid (Erow w8 w2.heap.size A8 c8 (M ++ [x]) ∧ Below w2.heap.size w2 w8) := Lib.hid ⟨r8, (HE5.out.2.alloc HE5.out.2.size _).trans b8⟩; clear r8 b8 g8)
          clear z0 z1 z2 z3
          obtain ⟨n9, hn9⟩ : ∃ n9, na - 1 = n9 := ⟨_, rfl⟩
          obtain ⟨c9, hc9⟩ : ∃ c9, ca - 1 = c9 := ⟨_, rfl⟩
          obtain ⟨A9, hA9⟩ : ∃ A9, (if ca = 1 then some sa else (some sa).map (·.add (1 * 4))) = A9 := ⟨_, rfl⟩
          have sl := slice_tailS (some sa) na ca HTA.out.1 HTA.out.2.1
          have H9 : Hid (ra.length = n9 ∧ n9 ≤ c9 ∧ (c9 : Int) ≤ 9223372036854775807 ∧ Lies w2 A9 (evals ra)) := Lib.hid ⟨by have := HTA.out.2.2.2.1; omega, by have := HTA.out.2.1; omega, by have := HTA.out.2.2.1; omega, hA9 ▸ HTA.out.2.2.2.2⟩
          rw [hn9, hc9, hA9] at sl
          have HN9 : Hid (n9 + 1 = na) := Lib.hid (by have := HTA.out.1; omega)
          clear hn9 hc9 hA9
          go_wp2_with fail
          go_roundw
          case rel => exact ⟨ra, (y :: rb), M ++ [x], A9, n9, c9, (some sb), nb, cb, A8, no + 1, c8, rfl, rfl, rfl, Lib.hid ⟨H.out.1.left (fun z h => by injection h with h; subst h; exact HLE.out), H9.out.1, H.out.2.2.1, by rw [List.length_append, HNO.out]; rfl, H9.out.2.2.2, H.out.2.2.2.2.2.1, H8.out.1, H8.out.2, ⟨H9.out.2.1, H9.out.2.2.1⟩, H.out.2.2.2.2.2.2.2.2.2⟩⟩
          case measure => have := HN9.out; simp [lenV]; omega
        · have d0 : decide (o ≤ 0) = false := decide_eq_false hle
          have HLE : Hid (¬ ordE x.rd y.rd ≤ 0) := Lib.hid (by rw [HOO.out]; exact hle)
          clear hle
          refine wp_region_held (S := fun V => (V.cell? sa = some (.slice x.k.a xn x.k.c) ∧ V.cell? ⟨sa.block, sa.off + 1, none⟩ = some (.int .i64 x.s) ∧ V.cell? ⟨sa.block, sa.off + 2, none⟩ = some (.bool x.d) ∧ V.cell? ⟨sa.block, sa.off + 3, none⟩ = some (.slice x.v.a xv x.v.c)) ∧ V.cell? sb = some (.slice y.k.a yn y.k.c) ∧ V.cell? ⟨sb.block, sb.off + 1, none⟩ = some (.int .i64 y.s) ∧ V.cell? ⟨sb.block, sb.off + 2, none⟩ = some (.bool y.d) ∧ V.cell? ⟨sb.block, sb.off + 3, none⟩ = some (.slice y.v.a yv y.v.c)) (by kernel_rfl) ?_
          change wpAnyH _ _ _ _ _ _ _ _ (World.drew _)
          have s0 := HSC.out _ (Below.refl _ _).drew
          refine wpAnyH_take (i := 0) (v := .slice (some sb) nb cb) rfl (by kernel_rfl) (by kernel_rfl) (by kernel_rfl) (fun _ _ _ h => h) (Or.inl ⟨by first | kernel_rfl | rfl, fun _ hS => by go_simp⟩) s0 ?_
          try simp only [Act.put, List.getElem_toArray, List.getElem_cons_zero, List.getElem_cons_succ, List.setIfInBounds_toArray, List.set_cons_zero, List.set_cons_succ]
          refine wpAnyH_take (i := 1) (v := .int .i64 (nb : Int)) rfl (by kernel_rfl) (by kernel_rfl) (by kernel_rfl) (fun _ _ _ h => h) (Or.inl ⟨by first | kernel_rfl | rfl, fun _ hS => by go_simp⟩) s0 ?_
          try simp only [Act.put, List.getElem_toArray, List.getElem_cons_zero, List.getElem_cons_succ, List.setIfInBounds_toArray, List.set_cons_zero, List.set_cons_succ]
          refine wpAnyH_take (i := 2) (v := .bool false) rfl (by kernel_rfl) (by kernel_rfl) (by kernel_rfl) (fun _ _ _ h => h) (Or.inl ⟨by first | kernel_rfl | rfl, fun _ hS => by go_simp⟩) s0 ?_
          try simp only [Act.put, List.getElem_toArray, List.getElem_cons_zero, List.getElem_cons_succ, List.setIfInBounds_toArray, List.set_cons_zero, List.set_cons_succ]
          refine wpAnyH_take (i := 3) (v := .bool false) rfl (by kernel_rfl) (by kernel_rfl) (by kernel_rfl) (fun _ _ _ h => h) (Or.inl ⟨by first | kernel_rfl | rfl, fun _ hS => by go_simp⟩) s0 ?_
          try simp only [Act.put, List.getElem_toArray, List.getElem_cons_zero, List.getElem_cons_succ, List.setIfInBounds_toArray, List.set_cons_zero, List.set_cons_succ]
          refine wpAnyH_take (i := 4) (v := .slice (some sa) na ca) rfl (by kernel_rfl) (by kernel_rfl) (by kernel_rfl) (fun _ _ _ h => h) (Or.inl ⟨by first | kernel_rfl | rfl, fun _ hS => by go_simp⟩) s0 ?_
          try simp only [Act.put, List.getElem_toArray, List.getElem_cons_zero, List.getElem_cons_succ, List.setIfInBounds_toArray, List.set_cons_zero, List.set_cons_succ]
          refine wpAnyH_take (i := 5) (v := .int .i64 (na : Int)) rfl (by kernel_rfl) (by kernel_rfl) (by kernel_rfl) (fun _ _ _ h => h) (Or.inl ⟨by first | kernel_rfl | rfl, fun _ hS => by go_simp⟩) s0 ?_
          try simp only [Act.put, List.getElem_toArray, List.getElem_cons_zero, List.getElem_cons_succ, List.setIfInBounds_toArray, List.set_cons_zero, List.set_cons_succ]
          refine wpAnyH_take (i := 6) (v := .bool true) rfl (by kernel_rfl) (by kernel_rfl) (by kernel_rfl) (fun _ _ _ h => h) (Or.inl ⟨by first | kernel_rfl | rfl, fun _ hS => by go_simp⟩) s0 ?_
          try simp only [Act.put, List.getElem_toArray, List.getElem_cons_zero, List.getElem_cons_succ, List.setIfInBounds_toArray, List.set_cons_zero, List.set_cons_succ]
          refine wpAnyH_take (i := 7) (v := .bool true) rfl (by kernel_rfl) (by kernel_rfl) (by kernel_rfl) (fun _ _ _ h => h) (Or.inl ⟨by first | kernel_rfl | rfl, fun _ hS => by go_simp⟩) s0 ?_
          try simp only [Act.put, List.getElem_toArray, List.getElem_cons_zero, List.getElem_cons_succ, List.setIfInBounds_toArray, List.set_cons_zero, List.set_cons_succ]
          refine wpAnyH_take (i := 8) (v := .slice (some sa) na ca) rfl (by kernel_rfl) (by kernel_rfl) (by kernel_rfl) (fun _ _ _ h => h) (Or.inl ⟨by first | kernel_rfl | rfl, fun _ hS => by go_simp⟩) s0 ?_
          try simp only [Act.put, List.getElem_toArray, List.getElem_cons_zero, List.getElem_cons_succ, List.setIfInBounds_toArray, List.set_cons_zero, List.set_cons_succ]
          refine wpAnyH_take (i := 9) (v := .pointer (some sa)) rfl (by kernel_rfl) (by kernel_rfl) (by kernel_rfl) (fun _ _ _ h => h) (Or.inl ⟨by first | kernel_rfl | rfl, fun _ hS => by go_simp⟩) s0 ?_
          try simp only [Act.put, List.getElem_toArray, List.getElem_cons_zero, List.getElem_cons_succ, List.setIfInBounds_toArray, List.set_cons_zero, List.set_cons_succ]
          refine wpAnyH_take (i := 10) (v := .agg #[.slice x.k.a xn x.k.c, .int .i64 x.s, .bool x.d, .slice x.v.a xv x.v.c]) rfl (by kernel_rfl) (by kernel_rfl) (by kernel_rfl) (fun _ _ _ h => h) (Or.inl ⟨by first | kernel_rfl | rfl, fun _ hS => by obtain ⟨⟨k1, k2, k3, k4⟩, k5, k6, k7, k8⟩ := hS; go_simp⟩) s0 ?_
          try simp only [Act.put, List.getElem_toArray, List.getElem_cons_zero, List.getElem_cons_succ, List.setIfInBounds_toArray, List.set_cons_zero, List.set_cons_succ]
          refine wpAnyH_take (i := 11) (v := .slice (some sb) nb cb) rfl (by kernel_rfl) (by kernel_rfl) (by kernel_rfl) (fun _ _ _ h => h) (Or.inl ⟨by first | kernel_rfl | rfl, fun _ hS => by go_simp⟩) s0 ?_
          try simp only [Act.put, List.getElem_toArray, List.getElem_cons_zero, List.getElem_cons_succ, List.setIfInBounds_toArray, List.set_cons_zero, List.set_cons_succ]
          refine wpAnyH_take (i := 12) (v := .pointer (some sb)) rfl (by kernel_rfl) (by kernel_rfl) (by kernel_rfl) (fun _ _ _ h => h) (Or.inl ⟨by first | kernel_rfl | rfl, fun _ hS => by go_simp⟩) s0 ?_
          try simp only [Act.put, List.getElem_toArray, List.getElem_cons_zero, List.getElem_cons_succ, List.setIfInBounds_toArray, List.set_cons_zero, List.set_cons_succ]
          refine wpAnyH_take (i := 13) (v := .agg #[.slice y.k.a yn y.k.c, .int .i64 y.s, .bool y.d, .slice y.v.a yv y.v.c]) rfl (by kernel_rfl) (by kernel_rfl) (by kernel_rfl) (fun _ _ _ h => h) (Or.inl ⟨by first | kernel_rfl | rfl, fun _ hS => by obtain ⟨⟨k1, k2, k3, k4⟩, k5, k6, k7, k8⟩ := hS; go_simp⟩) s0 ?_
          try simp only [Act.put, List.getElem_toArray, List.getElem_cons_zero, List.getElem_cons_succ, List.setIfInBounds_toArray, List.set_cons_zero, List.set_cons_succ]
          refine wpAnyH_ready (rs := [14]) (by kernel_rfl) (by simp) ?_
          refine AllReadyH.cons rfl (fun K hK => ?_) AllReadyH.nil
          go_simp
          go_at_call 57
          refine (HOR.out _ (Below.refl _ _).drew).mono ?_
          rintro e w6 ⟨rfl, b6⟩
          have B6 : Hid (Below wr.heap.size wr w6) := Lib.hid (below_then (Below.refl _ _).drew b6)
          clear b6
          refine hK.out _ _ (HSC.out _ B6.out) (fun _ => ?_)
          clear hK K
          try simp only [Act.put, List.getElem_toArray, List.getElem_cons_zero, List.getElem_cons_succ, List.setIfInBounds_toArray, List.set_cons_zero, List.set_cons_succ]
          have s1 := HSC.out _ B6.out
          refine wpAnyH_take (i := 15) (v := .bool false) rfl (by kernel_rfl) (by kernel_rfl) (by kernel_rfl) (fun _ _ _ h => h) (Or.inl ⟨by first | kernel_rfl | rfl, fun _ hS => by go_simp⟩) s1 ?_
          try simp only [Act.put, List.getElem_toArray, List.getElem_cons_zero, List.getElem_cons_succ, List.setIfInBounds_toArray, List.set_cons_zero, List.set_cons_succ]
          refine wpAnyH_take (i := 16) (v := .bool false) rfl (by kernel_rfl) (by kernel_rfl) (by kernel_rfl) (fun _ _ _ h => h) (Or.inl ⟨by first | kernel_rfl | rfl, fun _ hS => by go_simp⟩) s1 ?_
          try simp only [Act.put, List.getElem_toArray, List.getElem_cons_zero, List.getElem_cons_succ, List.setIfInBounds_toArray, List.set_cons_zero, List.set_cons_succ]
          refine wpAnyH_take (i := 17) (v := .bool false) rfl (by kernel_rfl) (by kernel_rfl) (by kernel_rfl) (fun _ _ _ h => h) (Or.inl ⟨by first | kernel_rfl | rfl, fun _ hS => by go_simp⟩) s1 ?_
          try simp only [Act.put, List.getElem_toArray, List.getElem_cons_zero, List.getElem_cons_succ, List.setIfInBounds_toArray, List.set_cons_zero, List.set_cons_succ]
          refine wpAnyH_done (by kernel_rfl) ?_ _
          try simp only [Act.put, List.getElem_toArray, List.getElem_cons_zero, List.getElem_cons_succ, List.setIfInBounds_toArray, List.set_cons_zero, List.set_cons_succ]
          have HE5 : Hid (Erow w6 w2.heap.size Ao co M ∧ Below w2.heap.size w2 w6) := Lib.hid ⟨H.out.2.2.2.2.2.2.1.kept B6.out (Nat.le_refl _), H.out.2.2.2.2.2.2.2.1.trans (B6.out.mono H.out.2.2.2.2.2.2.2.1.size)⟩
          obtain ⟨z0, z1, z2, z3⟩ := HYB.out w6 B6.out
          go_upto_region 11 with (at_builtin; refine wpList_append_erow _ (by rfl) (.tmp 56) (.tmp 60) (by rfl) w2.heap.size Ao co M [y] _ no 1 1 (by first | rfl | (simp [Act.eval]; done)) (by first | rfl | (simp [Act.eval]; done)) HNO.out rfl (HE5.out.1.alloc _) (lit_entry w6 y.k.a y.v.a y.k.c y.v.c y.k.l y.v.l y.s y.d yn yv HYL.out.1 HYL.out.2) (by have := HE5.out.2.size; first | omega | (simp only [World.size_alloc]; omega) | (simp; omega)) (by have := HNO.out; have := HTOT.out; have := HTOT2.out; have := HTB.out.1; simp only [List.length_singleton]; omega) ?_; intro A8 c8 w8 r8 b8 g8; have H8 : Hid (Erow w8 w2.heap.size A8 c8 (M ++ [y]) ∧ Below w2.heap.size w2 w8) := Lib.hid ⟨r8, (HE5.out.2.alloc HE5.out.2.size _).trans b8⟩; clear r8 b8 g8)
          clear z0 z1 z2 z3
          obtain ⟨n9, hn9⟩ : ∃ n9, nb - 1 = n9 := ⟨_, rfl⟩
          obtain ⟨c9, hc9⟩ : ∃ c9, cb - 1 = c9 := ⟨_, rfl⟩
          obtain ⟨A9, hA9⟩ : ∃ A9, (if cb = 1 then some sb else (some sb).map (·.add (1 * 4))) = A9 := ⟨_, rfl⟩
          have sl := slice_tailS (some sb) nb cb HTB.out.1 HTB.out.2.1
          have H9 : Hid (rb.length = n9 ∧ n9 ≤ c9 ∧ (c9 : Int) ≤ 9223372036854775807 ∧ Lies w2 A9 (evals rb)) := Lib.hid ⟨by have := HTB.out.2.2.2.1; omega, by have := HTB.out.2.1; omega, by have := HTB.out.2.2.1; omega, hA9 ▸ HTB.out.2.2.2.2⟩
          rw [hn9, hc9, hA9] at sl
          have HN9 : Hid (n9 + 1 = nb) := Lib.hid (by have := HTB.out.1; omega)
          clear hn9 hc9 hA9
          go_wp2_with fail
          go_roundw
          case rel => exact ⟨(x :: ra), rb, M ++ [y], (some sa), na, ca, A9, n9, c9, A8, no + 1, c8, rfl, rfl, rfl, Lib.hid ⟨H.out.1.right (fun z h => by injection h with h; subst h; exact leE_of_not HLE.out), H.out.2.1, H9.out.1, by rw [List.length_append, HNO.out]; rfl, H.out.2.2.2.2.1, H9.out.2.2.2, H8.out.1, H8.out.2, H.out.2.2.2.2.2.2.2.2.1, H9.out.2.1, H9.out.2.2.1⟩⟩
          case measure => have := HN9.out; simp [lenV]; omega
end Go.Proofs.Ytcffpkflijpdjaa
