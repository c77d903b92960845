/-
  Walks: the law's first look, whole. The law: which options may be. The law: any lists are made one, and cut, as the document says.
-/
import Derived.Test.YtcffpkflijpdjaaCJ16
set_option linter.unusedSimpArgs false
set_option linter.unusedVariables false
namespace Go.Proofs.Ytcffpkflijpdjaa
open Go.RowKit
set_option maxRecDepth 100000 in
set_option maxHeartbeats 16000000 in
theorem wakesC_any (w : World) : Calls Try.prog 37 #[] w fun e w' => e = .returned (.bool true) ∧ Below w.heap.size w w' := by
  go_enter Try.func37, Try.ntmps37
  have k0 := one_convN 97 w (w.heap.size) rfl
  have k1 := one_convN 97 (w.alloc (.cells #[.int .u8 97] 5 (1, 2))) (w.heap.size + 1) (by simp)
  have k2 := one_convN 98 ((w.alloc (.cells #[.int .u8 97] 5 (1, 2))).alloc (.cells #[.int .u8 97] 5 (1, 2))) (w.heap.size + 1 + 1) (by simp)
  go_upto_region 2 with fail
  clear k0 k1 k2
  obtain ⟨z, hz⟩ : ∃ z, w.heap.size = z := ⟨_, rfl⟩
  obtain ⟨hq, hs, hb⟩ := allocs_get [.cells #[.int .u8 97] 5 (1, 2), .cells #[.int .u8 97] 5 (1, 2), .cells #[.int .u8 98] 5 (1, 2), .cells #[.slice (some ⟨w.heap.size, 0, none⟩) 1 1, .int .i64 3, .bool false, .slice none 0 0, .slice (some ⟨w.heap.size + 1, 0, none⟩) 1 1, .int .i64 2, .bool false, .slice none 0 0, .slice (some ⟨w.heap.size + 1 + 1, 0, none⟩) 1 1, .int .i64 1, .bool false, .slice none 0 0] 26] w
  have q0 := hq 0 _ rfl
  have q1 := hq 1 _ rfl
  have q2 := hq 2 _ rfl
  have q3 := hq 3 _ rfl
  simp only [List.foldl_cons, List.foldl_nil, List.length_cons, List.length_nil, Nat.reduceAdd, Nat.add_zero] at hs hb q0 q1 q2 q3
  clear hq
  obtain ⟨w3, hw3⟩ : ∃ w3, ((((w.alloc (.cells #[.int .u8 97] 5 (1, 2))).alloc (.cells #[.int .u8 97] 5 (1, 2))).alloc (.cells #[.int .u8 98] 5 (1, 2))).alloc (.cells #[.slice (some ⟨w.heap.size, 0, none⟩) 1 1, .int .i64 3, .bool false, .slice none 0 0, .slice (some ⟨w.heap.size + 1, 0, none⟩) 1 1, .int .i64 2, .bool false, .slice none 0 0, .slice (some ⟨w.heap.size + 1 + 1, 0, none⟩) 1 1, .int .i64 1, .bool false, .slice none 0 0] 26)) = w3 := ⟨_, rfl⟩
  rw [hw3] at q0 q1 q2 q3 hs hb ⊢
  clear hw3
  have A3 : Hid (At4 z w3) := Lib.hid (by rw [hz] at q0 q1 q2 q3; exact ⟨q0, q1, q2, q3⟩)
  have B3 : Hid (Below w.heap.size w w3) := Lib.hid hb
  rw [hz]
  clear q0 q1 q2 q3 hs hb hz
  have HA3 : Hid (∀ W, Below w3.heap.size w3 W → At4 z W) := Lib.hid (fun W hb => A3.out.kept hb)
  have HCP : Hid (∀ W, Below w3.heap.size w3 W → Calls Try.prog 23 #[.slice (some ⟨z + 3, 0, none⟩) 3 3] W (Cpd L4 3 W)) := Lib.hid (fun W hb => cpd_ef (HA3.out W hb).ef)
  have BB : Hid (Below w3.heap.size w3 w3) := Lib.hid (Below.refl _ _)
  clear A3
  go_upto_region 3 with (first
    | (go_at_call 23; refine (HCP.out _ BB.out).mono ?_; rintro e w4 ⟨l4, A4, c4, he4, rfl, h4, k4, b4⟩; have E4 := Lib.hid (And.intro he4 (And.intro h4 k4)); have BB : Hid (Below w3.heap.size w3 w4) := Lib.hid (below_then BB.out b4); clear he4 h4 k4 b4)
    | (go_at_call 40; refine (run_w (P := [[([97], 3, false, [])], [([98], 1, false, [])]]) (n := 2) E4.out.2.1 E4.out.2.2 E4.out.1 (by decide +kernel) rfl).mono ?_; rintro e w5 ⟨A5, c5, T5, rfl, E5⟩; have BB : Hid (Below w3.heap.size w3 w5) := Lib.hid (below_then BB.out E5.out.2.2)))
  clear E4 E5
  go_upto_region 4 with (first
    | (go_at_call 23; refine (HCP.out _ BB.out).mono ?_; rintro e w6 ⟨l6, A6, c6, he6, rfl, h6, k6, b6⟩; have E6 := Lib.hid (And.intro he6 (And.intro h6 k6)); have BB : Hid (Below w3.heap.size w3 w6) := Lib.hid (below_then BB.out b6); clear he6 h6 k6 b6)
    | (go_at_call 40; refine (run_w (P := [[([97], 3, false, []), ([97], 2, false, [])], [([98], 1, false, [])]]) (n := 2) E6.out.2.1 E6.out.2.2 E6.out.1 (by decide +kernel) rfl).mono ?_; rintro e w7 ⟨A7, c7, T7, rfl, E7⟩; have BB : Hid (Below w3.heap.size w3 w7) := Lib.hid (below_then BB.out E7.out.2.2)))
  clear E6
  have B7 : Hid (Below w.heap.size w w7) := Lib.hid (below_then B3.out BB.out)
  clear BB HCP HA3 B3
  obtain ⟨a7, hA7, ly, hly⟩ : ∃ ad, A7 = some ad ∧ ∃ (ly : Option Addr × Nat), ∀ W, Below w7.heap.size w7 W → W.cell? ad = some (.slice ly.1 2 ly.2) := by
    have h1 := E7.out.1
    have hl : T7.length = 2 := by rw [← fl_length, h1]; rfl
    obtain ⟨g, hg⟩ : ∃ g, T7[0]? = some g := ⟨T7[0]'(by omega), List.getElem?_eq_getElem (by omega)⟩
    have e0 := fl_get hg
    rw [h1] at e0
    have e1 : ers g.l = [([97], 3, false, []), ([97], 2, false, [])] := (Option.some.inj e0).symm
    have e2 : g.l.length = 2 := by rw [← ers_len, e1]; rfl
    obtain ⟨ad, rfl, h2⟩ := take_gvals (E7.out.2.1.lies) hg
    have e3 : ad.add 0 = ad := by cases ad; simp [Addr.add]
    rw [e3] at h2
    unfold Gl.val at h2
    rw [e2] at h2
    exact ⟨ad, rfl, (g.a, g.c), fun W hb => (Below.cell hb (cell_inT h2)).trans h2⟩
  subst hA7
  have HLY := Lib.hid hly
  clear hly E7
  have k0 := one_convN 97 w7 (w7.heap.size) rfl
  have k1 := one_convN 98 (w7.alloc (.cells #[.int .u8 97] 5 (1, 2))) (w7.heap.size + 1) (by simp)
  have k2 := one_convN 99 ((w7.alloc (.cells #[.int .u8 97] 5 (1, 2))).alloc (.cells #[.int .u8 98] 5 (1, 2))) (w7.heap.size + 1 + 1) (by simp)
  have k3 := one_convN 100 (((w7.alloc (.cells #[.int .u8 97] 5 (1, 2))).alloc (.cells #[.int .u8 98] 5 (1, 2))).alloc (.cells #[.int .u8 99] 5 (1, 2))) (w7.heap.size + 1 + 1 + 1) (by simp)
  have k4 := one_convN 100 ((((w7.alloc (.cells #[.int .u8 97] 5 (1, 2))).alloc (.cells #[.int .u8 98] 5 (1, 2))).alloc (.cells #[.int .u8 99] 5 (1, 2))).alloc (.cells #[.int .u8 100] 5 (1, 2))) (w7.heap.size + 1 + 1 + 1 + 1) (by simp)
  have k5 := one_convN 101 (((((w7.alloc (.cells #[.int .u8 97] 5 (1, 2))).alloc (.cells #[.int .u8 98] 5 (1, 2))).alloc (.cells #[.int .u8 99] 5 (1, 2))).alloc (.cells #[.int .u8 100] 5 (1, 2))).alloc (.cells #[.int .u8 100] 5 (1, 2))) (w7.heap.size + 1 + 1 + 1 + 1 + 1) (by simp)
  have k6 := one_convN 102 ((((((w7.alloc (.cells #[.int .u8 97] 5 (1, 2))).alloc (.cells #[.int .u8 98] 5 (1, 2))).alloc (.cells #[.int .u8 99] 5 (1, 2))).alloc (.cells #[.int .u8 100] 5 (1, 2))).alloc (.cells #[.int .u8 100] 5 (1, 2))).alloc (.cells #[.int .u8 101] 5 (1, 2))) (w7.heap.size + 1 + 1 + 1 + 1 + 1 + 1) (by simp)
  have k7 := one_convN 103 (((((((w7.alloc (.cells #[.int .u8 97] 5 (1, 2))).alloc (.cells #[.int .u8 98] 5 (1, 2))).alloc (.cells #[.int .u8 99] 5 (1, 2))).alloc (.cells #[.int .u8 100] 5 (1, 2))).alloc (.cells #[.int .u8 100] 5 (1, 2))).alloc (.cells #[.int .u8 101] 5 (1, 2))).alloc (.cells #[.int .u8 102] 5 (1, 2))) (w7.heap.size + 1 + 1 + 1 + 1 + 1 + 1 + 1) (by simp)
  go_upto_region 5 with fail
  clear k0 k1 k2 k3 k4 k5 k6 k7
  obtain ⟨y, hy⟩ : ∃ y, w7.heap.size = y := ⟨_, rfl⟩
  obtain ⟨hq, hs, hb⟩ := allocs_get [.cells #[.int .u8 97] 5 (1, 2), .cells #[.int .u8 98] 5 (1, 2), .cells #[.int .u8 99] 5 (1, 2), .cells #[.int .u8 100] 5 (1, 2), .cells #[.int .u8 100] 5 (1, 2), .cells #[.int .u8 101] 5 (1, 2), .cells #[.int .u8 102] 5 (1, 2), .cells #[.int .u8 103] 5 (1, 2), .cells #[.int .i64 1, .int .i64 0, .int .i64 1, .slice (some ⟨w7.heap.size, 0, none⟩) 1 1, .slice (some ⟨w7.heap.size + 1, 0, none⟩) 1 1, .int .i64 2, .int .i64 0, .int .i64 1, .slice (some ⟨w7.heap.size + 1 + 1, 0, none⟩) 1 1, .slice (some ⟨w7.heap.size + 1 + 1 + 1, 0, none⟩) 1 1, .int .i64 3, .int .i64 1, .int .i64 1, .slice (some ⟨w7.heap.size + 1 + 1 + 1 + 1, 0, none⟩) 1 1, .slice (some ⟨w7.heap.size + 1 + 1 + 1 + 1 + 1, 0, none⟩) 1 1, .int .i64 4, .int .i64 2, .int .i64 1, .slice (some ⟨w7.heap.size + 1 + 1 + 1 + 1 + 1 + 1, 0, none⟩) 1 1, .slice (some ⟨w7.heap.size + 1 + 1 + 1 + 1 + 1 + 1 + 1, 0, none⟩) 1 1] 108, .cells #[.slice (some ⟨w7.heap.size + 1 + 1 + 1 + 1 + 1 + 1 + 1 + 1, 0, none⟩) 4 4, .int .i64 0, .int .i64 0, .int .i64 0] 82] w7
  have q0 := hq 0 _ rfl
  have q1 := hq 1 _ rfl
  have q2 := hq 2 _ rfl
  have q3 := hq 3 _ rfl
  have q4 := hq 4 _ rfl
  have q5 := hq 5 _ rfl
  have q6 := hq 6 _ rfl
  have q7 := hq 7 _ rfl
  have q8 := hq 8 _ rfl
  have q9 := hq 9 _ rfl
  simp only [List.foldl_cons, List.foldl_nil, List.length_cons, List.length_nil, Nat.reduceAdd, Nat.add_zero] at hs hb q0 q1 q2 q3 q4 q5 q6 q7 q8 q9
  clear hq
  obtain ⟨w8, hw8⟩ : ∃ w8, ((((((((((w7.alloc (.cells #[.int .u8 97] 5 (1, 2))).alloc (.cells #[.int .u8 98] 5 (1, 2))).alloc (.cells #[.int .u8 99] 5 (1, 2))).alloc (.cells #[.int .u8 100] 5 (1, 2))).alloc (.cells #[.int .u8 100] 5 (1, 2))).alloc (.cells #[.int .u8 101] 5 (1, 2))).alloc (.cells #[.int .u8 102] 5 (1, 2))).alloc (.cells #[.int .u8 103] 5 (1, 2))).alloc (.cells #[.int .i64 1, .int .i64 0, .int .i64 1, .slice (some ⟨w7.heap.size, 0, none⟩) 1 1, .slice (some ⟨w7.heap.size + 1, 0, none⟩) 1 1, .int .i64 2, .int .i64 0, .int .i64 1, .slice (some ⟨w7.heap.size + 1 + 1, 0, none⟩) 1 1, .slice (some ⟨w7.heap.size + 1 + 1 + 1, 0, none⟩) 1 1, .int .i64 3, .int .i64 1, .int .i64 1, .slice (some ⟨w7.heap.size + 1 + 1 + 1 + 1, 0, none⟩) 1 1, .slice (some ⟨w7.heap.size + 1 + 1 + 1 + 1 + 1, 0, none⟩) 1 1, .int .i64 4, .int .i64 2, .int .i64 1, .slice (some ⟨w7.heap.size + 1 + 1 + 1 + 1 + 1 + 1, 0, none⟩) 1 1, .slice (some ⟨w7.heap.size + 1 + 1 + 1 + 1 + 1 + 1 + 1, 0, none⟩) 1 1] 108)).alloc (.cells #[.slice (some ⟨w7.heap.size + 1 + 1 + 1 + 1 + 1 + 1 + 1 + 1, 0, none⟩) 4 4, .int .i64 0, .int .i64 0, .int .i64 0] 82)) = w8 := ⟨_, rfl⟩
  rw [hw8] at q0 q1 q2 q3 q4 q5 q6 q7 q8 q9 hs hb ⊢
  clear hw8
  have A8 : Hid (AtV y w8) := Lib.hid (by rw [hy] at q0 q1 q2 q3 q4 q5 q6 q7 q8 q9; exact ⟨q0, q1, q2, q3, q4, q5, q6, q7, q8, q9⟩)
  have B8 : Hid (Below w7.heap.size w7 w8) := Lib.hid hb
  rw [hy]
  clear q0 q1 q2 q3 q4 q5 q6 q7 q8 q9 hs hb hy
  have HV : Hid (∀ W, Below w8.heap.size w8 W → Calls Try.prog 44 #[.agg #[.slice (some ⟨y + 8, 0, none⟩) 4 4, .int .i64 0, .int .i64 0, .int .i64 0]] W fun e w' => ∃ (T' : List Ta) (A' : Option Addr) (c' : Nat), e = .returned (.agg #[.slice A' 4 c', .int .i64 0, .int .i64 0, .int .i64 0]) ∧ Hid (trs T' = T4r ∧ TsIn w' A' T' 4 c' ∧ Below W.heap.size W w')) := Lib.hid (fun W hb => (copyV_any _ (t4w y) 4 4 0 0 0 W ((A8.out.kept hb).ts.1) (fun q hq => by
    simp only [t4w, List.mem_cons, List.mem_nil_iff, or_false] at hq
    rcases hq with rfl | rfl | rfl | rfl <;> exact ⟨by simp, by simp⟩)).mono fun e w' hc => by
    obtain ⟨T', A', c', h1, h2, h3, h4, h5⟩ := hc
    have h1' : trs T' = T4r := h1
    have hl := t4_len h1'
    refine ⟨T', A', c', h2, Lib.hid ⟨h1', ⟨hl, h4.lies, h3.ins (fun q hq => ?_), by have := (own_cap h4).1; rw [hl] at this; exact this, by decide⟩, h5⟩⟩
    obtain ⟨a1, c1, b1, d1, a2, c2, b2, d2, a3, c3, b3, d3, a4, c4, b4, d4, rfl⟩ := t4_cases h1'
    simp only [List.mem_cons, List.mem_nil_iff, or_false] at hq
    unfold Byt
    rcases hq with rfl | rfl | rfl | rfl <;> exact ⟨by simp, by simp⟩)
  obtain ⟨c0, c1, c2, c3⟩ := A8.out.ts.2
  go_upto_region 6 with (first
    | (go_at_call 44; refine (HV.out _ (Below.refl _ _)).mono ?_; rintro e w9 ⟨T9, A9, c9, rfl, E9⟩)
    | (go_at_call 45; refine (pick_any A9 T9 4 c9 0 0 0 2 w9 E9.out.2.1).mono ?_; rintro e w10 ⟨A10, m10, c10, lev, ok, S, rfl, p1, p2, p3⟩; obtain ⟨rfl, rfl, p4⟩ := p3 (by rw [(t4_pick E9.out.1).1]; decide); rw [(t4_pick E9.out.1).2] at p4; obtain ⟨p5, p6⟩ := p1; obtain rfl : m10 = 3 := (by have := p4.length_eq; rw [p5] at this; exact this); obtain ⟨gi, rfl, -, p7, p8⟩ := p6.resolve_left (by omega); have E10 : Hid (S.Perm [1, 2, 3] ∧ Go.Sort.Holds (Value.int .i64) w10 gi 0 S.toArray ∧ gi < w10.heap.size ∧ Below w8.heap.size w8 w10) := Lib.hid ⟨p4, p8, p7, below_then E9.out.2.2 p2⟩; clear p2 p3 p4 p5 p6 p7 p8))
  clear c0 c1 c2 c3
  obtain ⟨c0, c1, c2, c3⟩ := (A8.out.kept E10.out.2.2.2).ts.2
  have a7c := HLY.out w10 (below_then B8.out E10.out.2.2.2)
  have a7d : w10.cell? (a7.add 0) = some (.slice ly.1 2 ly.2) := by
    have e3 : a7.add 0 = a7 := by cases a7; simp [Addr.add]
    rw [e3]
    exact a7c
  have B10 : Hid (Below w.heap.size w w10) := Lib.hid (below_then B7.out (below_then B8.out E10.out.2.2.2))
  have HBT : Hid (∀ W (T : List Ta) (A : Option Addr) (c : Nat), trs T = T4r → TsIn W A T 4 c → Below w10.heap.size w10 W → Calls Try.prog 63 #[.agg #[.slice A 4 c, .int .i64 0, .int .i64 0, .int .i64 0], .slice (some ⟨gi, 0, none⟩) 3 c10, .int .i64 1] W fun e w' => e = .returned (.bool true) ∧ Below W.heap.size W w') := Lib.hid (fun W T A c h1 h2 hb => by
    have h3 := t4_bot h1 E10.out.1
    have hl : S.length = 3 := by rw [E10.out.1.length_eq]; rfl
    have := bottom_any A T 4 c 0 0 0 1 gi 3 c10 S W h2 (t4_wf h1) hl (fun x hx => by
      have := E10.out.1.mem_iff.1 hx
      simp only [List.mem_cons, List.mem_nil_iff, or_false] at this
      unfold WfI
      rcases this with rfl | rfl | rfl <;> rfl) (fun j x hj => by
      have hlt := (List.getElem?_eq_some_iff.1 hj).1
      have h4 := (E10.out.2.1 j (by simpa using hlt)).1
      rw [Nat.zero_add] at h4
      have h5 : S.toArray[j]! = x := by
        rw [getElem!_pos S.toArray j (by simpa using hlt)]
        have := (List.getElem?_eq_some_iff.1 hj).2
        simpa using this
      rw [h5] at h4
      exact (Below.cell (p := ⟨gi, j, none⟩) hb E10.out.2.2.1).trans h4) (by decide) h3.2
    rwa [h3.1] at this)
  go_wp2_with (first
    | (go_at_call 44; refine (HV.out _ E10.out.2.2.2).mono ?_; rintro e w11 ⟨T11, A11, c11, rfl, E11⟩)
    | (go_at_call 63; refine (HBT.out w11 T11 A11 c11 E11.out.1 E11.out.2.1 E11.out.2.2).mono ?_; rintro e w12 ⟨rfl, hb⟩; have B12 : Hid (Below w.heap.size w w12) := Lib.hid (below_then (below_then B10.out E11.out.2.2) hb); clear hb)
    | (go_at_call 38; refine (check_any 0 0 0 0 none 0 0 w12).mono ?_; rintro e w13 ⟨rfl, hb⟩; have B13 := Lib.hid (below_then B12.out hb); clear hb; rw [show optE 0 0 0 0 0 = 2 from rfl]))
  go_ret
  exact ⟨rfl, B13.out⟩
end Go.Proofs.Ytcffpkflijpdjaa
namespace Go.Proofs.Ytcffpkflijpdjaa
open Go.RowKit
set_option maxRecDepth 100000 in
set_option maxHeartbeats 8000000 in
theorem lawChecks (mem size blk fan : Int) (A : Option Addr) (H : List Int) (n c : Nat) (w : World) (hn : H.length = n) (h : Lies w A (ivals H)) (hl : n * 8 ≤ 140737488355328) :
    Calls Try.prog 11 #[.agg #[.int .i64 mem, .int .i64 size, .int .i64 blk, .int .i64 fan, .slice A n c]] w fun e w' => e = .returned (.bool true) ∧ Below w.heap.size w w' := by
  obtain ⟨w0, hw0⟩ : ∃ w0, w.alloc (.cells #[.int .i64 mem, .int .i64 size, .int .i64 blk, .int .i64 fan, .slice A n c] 67) = w0 := ⟨_, rfl⟩
  have B0 : Hid (Below w.heap.size w w0 ∧ w0.heap.size = w.heap.size + 1) := Lib.hid ⟨hw0 ▸ below_new w _, by rw [← hw0]; simp⟩
  have HO : Hid (∀ W, Below w0.heap.size w0 W → W.heap[w.heap.size]? = some (.cells #[.int .i64 mem, .int .i64 size, .int .i64 blk, .int .i64 fan, .slice A n c] 67 (0, 0))) := Lib.hid (fun W hb => (hb.block _ (by rw [← hw0]; simp)).trans (hw0 ▸ heap_alloc_new w _))
  have HL := Lib.hid (And.intro hn (And.intro (h.kept (B0.out.1.trans ((below_new w0 (.cells #[] 3)).mono B0.out.1.size))) hl))
  obtain ⟨c0, c1, c2, c3, c4⟩ := box_five (HO.out (w0.alloc (.cells #[] 3)) (below_new _ _))
  clear h hn hl
  go_enter Try.func11, Try.ntmps11
  go_upto_region 1 with fail
  try rw [hw0]
  clear hw0
  go_upto_region 2 with (at_builtin; refine wpList_append_irow _ rfl (.tmp 3) (.tmp 5) rfl w0.heap.size _ 0 H _ n c rfl rfl HL.out.1 (irow_made w0) HL.out.2.1 (by simp) (by have := HL.out.2.2; omega) ?_; intro A1 cc w1 r1 b1; have H1 : Hid (Below w0.heap.size w0 w1) := Lib.hid ((below_new w0 _).trans b1); have f4 := froz w1 w.heap.size 4 _ _ (HO.out w1 H1.out); have c4' := (box_five (HO.out w1 H1.out)).2.2.2.2; clear r1 b1)
  try clear c0
  try clear c1
  try clear c2
  try clear c3
  try clear c4
  try clear f4
  try clear c4'
  have ho := HO.out w1 H1.out
  obtain ⟨w2, hw2⟩ : ∃ w2, w1.setCell ⟨w.heap.size, 4, none⟩ (.slice A1 n cc) = w2 := ⟨_, rfl⟩
  have H2 : Hid (w2.heap[w.heap.size]? = some (.cells #[.int .i64 mem, .int .i64 size, .int .i64 blk, .int .i64 fan, .slice A1 n cc] 67 (0, 0)) ∧ Below w.heap.size w w2) := Lib.hid ⟨by rw [← hw2]; exact heap_setCell_same w1 w.heap.size 4 _ _ _ ho, by
    have h1 : Below w.heap.size w w1 := below_then B0.out.1 H1.out
    exact h1.trans (by rw [← hw2]; exact ((Kp.refl (fun j => j ≠ w.heap.size) w1).set w.heap.size 4 (.slice A1 n cc) (by simp)).below (fun j hj => by omega))⟩
  try rw [hw2]
  clear hw2 ho
  have HC : Hid (∀ W, Below w2.heap.size w2 W → W.cell? ⟨w.heap.size, 0, none⟩ = some (.int .i64 mem) ∧ W.cell? ⟨w.heap.size, 1, none⟩ = some (.int .i64 size) ∧ W.cell? ⟨w.heap.size, 2, none⟩ = some (.int .i64 blk) ∧ W.cell? ⟨w.heap.size, 3, none⟩ = some (.int .i64 fan) ∧ W.cell? ⟨w.heap.size, 4, none⟩ = some (.slice A1 n cc)) := Lib.hid (fun W hb => box_five ((hb.block _ (Array.getElem?_eq_some_iff.1 H2.out.1).1).trans H2.out.1))
  obtain ⟨v, hv⟩ : ∃ v, optE mem size blk fan n = v := ⟨_, rfl⟩
  have HK1 : Hid (∀ W, Calls Try.prog 38 #[.agg #[.int .i64 mem, .int .i64 size, .int .i64 blk, .int .i64 fan, .slice A1 n cc]] W fun e w' => e = .returned (.int .i64 v) ∧ Below W.heap.size W w') := Lib.hid (fun W => hv ▸ check_any mem size blk fan A1 n cc W)
  have HK2 : Hid (∀ W, Calls Try.prog 39 #[.agg #[.int .i64 mem, .int .i64 size, .int .i64 blk, .int .i64 fan, .slice A1 n cc]] W fun e w' => e = .returned (.int .i64 v) ∧ Below W.heap.size W w') := Lib.hid (fun W => hv ▸ refCheck_any mem size blk fan A1 n cc W)
  have RR : Hid (Below w2.heap.size w2 w2) := Lib.hid (Below.refl _ _)
  clear hv HO B0 H1 HL
  go_region_held3 (fun W => W.cell? ⟨w.heap.size, 0, none⟩ = some (.int .i64 mem) ∧ W.cell? ⟨w.heap.size, 1, none⟩ = some (.int .i64 size) ∧ W.cell? ⟨w.heap.size, 2, none⟩ = some (.int .i64 blk) ∧ W.cell? ⟨w.heap.size, 3, none⟩ = some (.int .i64 fan) ∧ W.cell? ⟨w.heap.size, 4, none⟩ = some (.slice A1 n cc)) (first | exact HC.out _ RR.out | exact HC.out _ RR.out.drew | go_keep) (first
    | (go_at_call 37; refine (wakesC_any _).mono ?_; rintro e w3 ⟨rfl, hb⟩; have RR : Hid (Below w2.heap.size w2 w3) := Lib.hid (below_then (by first | exact RR.out | exact RR.out.drew) hb); clear hb)
    | (go_at_call 38; refine (HK1.out _).mono ?_; rintro e w4 ⟨rfl, hb⟩; have RR : Hid (Below w2.heap.size w2 w4) := Lib.hid (below_then (by first | exact RR.out | exact RR.out.drew) hb); clear hb)
    | (go_at_call 39; refine (HK2.out _).mono ?_; rintro e w5 ⟨rfl, hb⟩; have RR : Hid (Below w2.heap.size w2 w5) := Lib.hid (below_then (by first | exact RR.out | exact RR.out.drew) hb); clear hb))
  all_goals
    go_wp2_with fail
    go_ret
    exact ⟨rfl, below_then H2.out.2 (by first | exact RR.out | exact RR.out.drew)⟩
end Go.Proofs.Ytcffpkflijpdjaa
namespace Go.Proofs.Ytcffpkflijpdjaa
open Go.RowKit
theorem box_three {W : World} {g : Nat} {v0 v1 v2 : Value} {t : TypeId} {fr : Nat × Nat} (e : W.heap[g]? = some (.cells #[v0, v1, v2] t fr)) : W.cell? ⟨g, 0, none⟩ = some v0 ∧ W.cell? ⟨g, 1, none⟩ = some v1 ∧ W.cell? ⟨g, 2, none⟩ = some v2 := by
  refine ⟨?_, ?_, ?_⟩ <;> simp [World.cell?, e]
theorem run_m {w : World} {A : Option Addr} {Ls : List Gl} {n c : Nat} {F : List (List Er)} (m z : Int) (b : Bool) (h : LF w A Ls n c) (hF : fl Ls = F) : Calls Try.prog 40 #[.slice A n c, .int .i64 m, .bool b, .int .i64 z] w (RunOut F z m b w) := by
  subst hF
  exact run_any A Ls n c m z b w h
theorem refRun_m {w : World} {A : Option Addr} {Ls : List Gl} {n c : Nat} {F : List (List Er)} (m z : Int) (b : Bool) (h : LF w A Ls n c) (hF : fl Ls = F) : Calls Try.prog 42 #[.slice A n c, .int .i64 m, .bool b, .int .i64 z] w (RunRef F z m b w) := by
  subst hF
  exact refRun_any A Ls n c m z b w h
/-- What is answered has few entries, and bytes that may be. -/
theorem runAns_mem {F : List (List Er)} {z m : Int} {b : Bool} {er : Int} {P : List (List Er)} (h : RunAns F z m b er P) : (∀ x ∈ P.flatten, x ∈ F.flatten) ∧ P.flatten.length ≤ F.flatten.length := by
  rcases h with ⟨_, _, h⟩ | ⟨_, R, h1, h2⟩
  · subst h; exact ⟨fun x hx => (by cases hx), Nat.zero_le _⟩
  · rw [h2, cutC_all]
    have h3 := ansM_mem h1
    have h4 := thinE_sub m b R
    exact ⟨fun x hx => h3.1 x (h4.subset hx), Nat.le_trans h4.length_le h3.2⟩
theorem GMades.gs {w : World} {B : Nat} {A : Option Addr} {c : Nat} {T : List Gl} {j : Nat} (h : GMades w B T) (hj : T.length = j) (hr : Grow w B A c T) (hb : ∀ x ∈ (fl T).flatten, ErB x) (hl : (fl T).flatten.length * 64 ≤ 140737488351232) : Gs w A T j := by
  refine ⟨hj, hr.lies, fun g hg => ?_⟩
  obtain ⟨h1, h2⟩ := h g hg
  refine ⟨h1.lies, h2.ins (fun p hp => hb p (List.mem_flatten.2 ⟨ers g.l, List.mem_map_of_mem (f := fun g : Gl => ers g.l) hg, hp⟩)), ?_⟩
  have := (List.sublist_flatten_of_mem (List.mem_map_of_mem (f := fun g : Gl => ers g.l) hg)).length_le
  rw [ers_len] at this
  have e : (fl T).flatten = (T.map fun g : Gl => ers g.l).flatten := rfl
  rw [e] at hl
  omega
theorem gs_ref {w : World} {A : Option Addr} {T : List Gl} {j : Nat} (hj : T.length = j) (hr : Lies w A (gvals T)) (he : ∀ g ∈ T, Lies w g.a (evals g.l) ∧ EIns w g.l ∧ g.l.length ≤ g.c ∧ (g.c : Int) ≤ 9223372036854775807) (hl : (fl T).flatten.length * 64 ≤ 140737488351232) : Gs w A T j := by
  refine ⟨hj, hr, fun g hg => ⟨(he g hg).1, (he g hg).2.1, ?_⟩⟩
  have := (List.sublist_flatten_of_mem (List.mem_map_of_mem (f := fun g : Gl => ers g.l) hg)).length_le
  rw [ers_len] at this
  have e : (fl T).flatten = (T.map fun g : Gl => ers g.l).flatten := rfl
  rw [e] at hl
  omega
theorem goC_few {z : Int} (L : List Er) (hz : 1 ≤ z) : (cutC z L).length ≤ L.length := by
  have h : ∀ c ∈ cutC z L, c ≠ [] := by
    suffices h : ∀ (L : List Er) (s : List (List Er) × List Er), (∀ c ∈ s.1, c ≠ []) → (∀ c ∈ (L.foldl (stepC z) s).1, c ≠ []) by
      intro c hc
      unfold cutC finC at hc
      split at hc
      · exact h L ([], []) (fun c hc => by cases hc) c hc
      · next hne =>
        rcases List.mem_append.1 hc with hc | hc
        · exact h L ([], []) (fun c hc => by cases hc) c hc
        · rw [List.mem_singleton.1 hc]; exact hne
    intro L
    induction L with
    | nil => intro s hs; exact hs
    | cons x L ih =>
      intro s hs
      rw [List.foldl_cons]
      refine ih _ ?_
      unfold stepC
      split
      · next hcut =>
        intro c hc
        rcases List.mem_append.1 hc with hc | hc
        · exact hs c hc
        · rw [List.mem_singleton.1 hc]
          intro e
          rw [e] at hcut
          unfold cutB at hcut
          simp at hcut
      · exact hs
  have e : (cutC z L).flatten.length = L.length := by rw [cutC_all]
  rw [← e, List.length_flatten]
  clear e
  generalize cutC z L = P at h
  induction P with
  | nil => simp
  | cons c P ih =>
    have h1 : 1 ≤ c.length := List.length_pos_iff.2 (h c (List.mem_cons_self ..))
    have h2 := ih (fun d hd => h d (List.mem_cons_of_mem _ hd))
    rw [List.map_cons, List.sum_cons, List.length_cons]
    omega
theorem runAns_few {F : List (List Er)} {z m : Int} {b : Bool} {er : Int} {P : List (List Er)} (h : RunAns F z m b er P) : P.length ≤ F.flatten.length := by
  rcases h with ⟨_, _, h⟩ | ⟨hz, R, h1, h2⟩
  · subst h; exact Nat.zero_le _
  · rw [h2]
    exact Nat.le_trans (goC_few _ hz) (Nat.le_trans (thinE_sub m b R).length_le (ansM_mem h1).2)
set_option maxRecDepth 100000 in
set_option maxHeartbeats 8000000 in
theorem lawRuns (A : Option Addr) (Ls : List Gl) (n c : Nat) (m z : Int) (b : Bool) (w : World) (h : LF w A Ls n c) :
    Calls Try.prog 12 #[.slice A n c, .agg #[.int .i64 m, .int .i64 z, .bool b]] w fun e w' => e = .returned (.bool true) ∧ Below w.heap.size w w' := by
  have HH := Lib.hid h
  clear h
  obtain ⟨w0, hw0⟩ : ∃ w0, w.alloc (.cells #[.int .i64 m, .int .i64 z, .bool b] 72) = w0 := ⟨_, rfl⟩
  have B0 : Hid (Below w.heap.size w w0) := Lib.hid (hw0 ▸ below_new w _)
  have HC : Hid (∀ W, Below w0.heap.size w0 W → W.cell? ⟨w.heap.size, 0, none⟩ = some (.int .i64 m) ∧ W.cell? ⟨w.heap.size, 1, none⟩ = some (.int .i64 z) ∧ W.cell? ⟨w.heap.size, 2, none⟩ = some (.bool b)) := Lib.hid (fun W hb => box_three ((hb.block w.heap.size (by rw [← hw0]; simp)).trans (hw0 ▸ heap_alloc_new w _)))
  go_enter Try.func12, Try.ntmps12
  go_upto_region 1 with fail
  try rw [hw0]
  clear hw0
  go_upto_region 3 with (go_at_call 37; refine (wakesC_any _).mono ?_; rintro e w1 ⟨rfl, hb⟩; have B1 : Hid (Below w0.heap.size w0 w1) := Lib.hid hb; clear hb)
  have RR := B1
  have HLI : Hid (∀ W, Below w0.heap.size w0 W → Calls Try.prog 41 #[.slice A n c] W fun e w' => ∃ (T : List Gl) (A' : Option Addr) (c' : Nat), e = .returned (.slice A' n c') ∧ Hid (fl T = fl Ls ∧ LF w' A' T n c' ∧ Below W.heap.size W w')) := Lib.hid (fun W hb => (listsC_lf (HH.out.kept (below_then B0.out hb))).mono fun e w' hc => by
    obtain ⟨T, A', c', h1, h2, h3, -, -, h6⟩ := hc
    exact ⟨T, A', c', h1, Lib.hid ⟨h2, h3, h6⟩⟩)
  go_region_held3 (fun W => W.cell? ⟨w.heap.size, 0, none⟩ = some (.int .i64 m) ∧ W.cell? ⟨w.heap.size, 1, none⟩ = some (.int .i64 z) ∧ W.cell? ⟨w.heap.size, 2, none⟩ = some (.bool b)) (first | exact HC.out _ RR.out | exact HC.out _ RR.out.drew | go_keep) (first
    | (go_at_call 41; refine (HLI.out _ (by first | exact RR.out | exact RR.out.drew)).mono ?_; rintro e w2 ⟨T2, A2, c2, rfl, E2⟩; have RR : Hid (Below w0.heap.size w0 w2) := Lib.hid (below_then (by first | exact RR.out | exact RR.out.drew) E2.out.2.2))
    | (go_at_call 40; refine (run_m m z b (E2.out.2.1.kept (by first | exact Below.refl _ _ | exact (Below.refl _ _).drew)) E2.out.1).mono ?_; rintro e w3 ⟨T3, A3, j3, c3, er3, rfl, h1, h2, h3, h4, h5⟩; have E3 : Hid (T3.length = j3 ∧ RunAns (fl Ls) z m b er3 (fl T3) ∧ GMades w3 w2.heap.size T3 ∧ Grow w3 w2.heap.size A3 c3 T3) := Lib.hid ⟨h1, h2, by first | exact h3 | exact h3.mono (by simp), by first | exact h4 | exact h4.mono (by simp)⟩; have RR : Hid (Below w0.heap.size w0 w3) := Lib.hid (below_then (by first | exact RR.out | exact RR.out.drew) h5); clear h1 h2 h3 h4 h5))
  all_goals
    have B3 : Hid (Below w.heap.size w w3) := Lib.hid (below_then B0.out RR.out)
    obtain ⟨c0, c1, c2'⟩ := HC.out w3 RR.out
    go_upto_region 5 with (go_at_call 42; refine (refRun_m m z b (HH.out.kept B3.out) rfl).mono ?_; rintro e w4 ⟨T4, A4, j4, c4, er4, rfl, h1, h2, h3, h4, h5⟩; obtain rfl : er3 = er4 := (E3.out.2.1.one h2).1; have E4 : Hid (T4.length = j4 ∧ fl T3 = fl T4 ∧ (∀ g ∈ T4, Lies w4 g.a (evals g.l) ∧ EIns w4 g.l ∧ g.l.length ≤ g.c ∧ (g.c : Int) ≤ 9223372036854775807) ∧ Lies w4 A4 (gvals T4) ∧ Below w3.heap.size w3 w4) := Lib.hid ⟨h1, (E3.out.2.1.one h2).2, h3, h4, h5⟩; clear h1 h2 h3 h4 h5)
    have HSM : Hid (Calls Try.prog 43 #[.slice A3 j3 c3, .slice A4 j4 c4] w4 fun e w' => e = .returned (.bool true) ∧ Below w4.heap.size w4 w') := Lib.hid (by
      have hm := runAns_mem E3.out.2.1
      have ht := HH.out.tot
      rw [← flat_fl] at ht
      have hl3 : (fl T3).flatten.length * 64 ≤ 140737488351232 := by have := hm.2; omega
      have g3 := ((E3.out.2.2.1.kept E4.out.2.2.2.2 (Nat.le_refl _)).gs E3.out.1 (E3.out.2.2.2.kept E4.out.2.2.2.2 (Nat.le_refl _)) (fun x hx => HH.out.byt x (hm.1 x hx)) hl3)
      have g4 := gs_ref E4.out.1 E4.out.2.2.2.1 E4.out.2.2.1 (by rw [← E4.out.2.1]; exact hl3)
      have hj : j4 = j3 := by rw [← E4.out.1, ← E3.out.1, ← fl_length, ← fl_length, E4.out.2.1]
      have hf := runAns_few E3.out.2.1
      rw [fl_length, E3.out.1] at hf
      subst hj
      exact sameGl_any A3 A4 T3 T4 j4 c3 c4 w4 g3 g4 E4.out.2.1 (by omega))
    have B4 : Hid (Below w.heap.size w w4) := Lib.hid (below_then B3.out E4.out.2.2.2.2)
    clear E3 E4
    go_wp2_with (go_at_call 43; refine HSM.out.mono ?_; rintro e w5 ⟨rfl, hb⟩; have B5 := Lib.hid (below_then B4.out hb); clear hb)
    go_ret
    exact ⟨rfl, B5.out⟩
end Go.Proofs.Ytcffpkflijpdjaa
