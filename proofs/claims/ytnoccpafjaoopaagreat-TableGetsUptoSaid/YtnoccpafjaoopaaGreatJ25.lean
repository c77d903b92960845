/-
  Walks: the law's first look. Walks: all that a nil table tells. Bytes, texts, numbers and entries that come in, as the walks want them. TableNil: walks of the law itself. Walks: a table made of entries, by the law. Entries that come in, of a told bulk.
-/
import Derived.Test.YtnoccpafjaoopaaGreatRows
import Derived.Deep.Slices
import Derived.OpenShut
import Derived.ChangeOld
import Derived.SizedLaws
import Derived.Test.YtnoccpafjaoopaaGreatJ24
set_option linter.unusedSimpArgs false
set_option linter.unusedVariables false
namespace Go.Proofs.YtnoccpafjaoopaaGreat
open Go.RowKit
open Go.Maps
def sT : ByteArray := ⟨#[116]⟩
theorem okT : okName sT = true := by decide +kernel
theorem fits_calm (n : Nat) (h : n ≤ 140737488355328) : Fits calmV n := ⟨by decide, fun x hx => (List.not_mem_nil hx).elim, fun x hx => (List.not_mem_nil hx).elim⟩
theorem fits_lone {s : ByteArray} {F : List Int} {y : Int} {n : Nat} (hs : s.size ≤ 140737488355328) (h : F.length + n ≤ 140737488355328) : Fits (loneV s F y) n := ⟨by show 1 * 48 ≤ _; omega, fun x hx => by rw [show (loneV s F y).fs = [(s, F, y)] from rfl, List.mem_singleton] at hx; subst hx; exact h, fun x hx => by rw [show (loneV s F y).fs = [(s, F, y)] from rfl, List.mem_singleton] at hx; subst hx; exact hs⟩
/-- A disk whose blocks are none of some. -/
def Clear (p : Pk) (g lo hi : Nat) : Prop := ∀ k, p.own g k → ¬ (lo ≤ k ∧ k < hi)
theorem Clear.rest {w w' : World} {g lo hi : Nat} {p p' : Pk} (h : Clear p g lo hi) (hd : Does (p.own g) (p'.own g) w w') (hw : hi ≤ w.heap.size) : Clear p' g lo hi ∧ ∀ k, lo ≤ k → k < hi → w'.heap[k]? = w.heap[k]? :=
  ⟨fun k hk q => (hd.grows k hk).elim (fun h' => h k h' q) (fun h' => by omega), fun k h1 h2 => hd.block k (by omega) (fun hk => h k hk ⟨h1, h2⟩)⟩
theorem write_three {B g : Nat} {p : Pk} {m m' : Vm} {r : Int} {z : Nat} {w : World} (h : PSt w B g p) (hv : p.vm = m) (ha : At3 z w) (hf : Fits m 1000) (hs : sumM m.fs + 1000 ≤ 4611686018427387904) (hw : writeV m sT L3 2 = (m', r)) :
    Calls Tryz.prog 12 #[.pointer (some ⟨g, 0, none⟩), .string sT, .slice (some ⟨z + 4, 0, none⟩) 3 3, .int .i64 2] w fun e w' => e = .returned (.int .i64 r) ∧ Rest w B g p m' w' := by
  have := write_any B g p m sT (some ⟨z + 4, 0, none⟩) (l3 z) 3 3 2 w h hv (by decide) rfl ha.lies.1 ha.lies.2 (fun q hq => by
    simp only [l3, List.mem_cons, List.mem_nil_iff, or_false] at hq
    rcases hq with rfl | rfl | rfl <;> exact ⟨by simp only; omega, by simp only; omega⟩) (by decide) (by decide) (by decide) 1000 (fun _ _ k h1 h2 => L3_file h1 h2) hf hs (by decide)
  rwa [l3_rd, hw] at this
theorem got_some {x : Er} {y : En} {b : Bool} {er : Int} (h : AnsG (some x, false) y b er) : y.rd = x ∧ b = true ∧ er = 0 := by
  rcases h with ⟨h1, h2, h3⟩ | ⟨h1, -⟩
  · injection h1 with h1
    injection h1 with h1
    exact ⟨h1.symm, h2, h3⟩
  · cases h1
set_option maxRecDepth 100000 in
set_option maxHeartbeats 4000000 in
theorem wakes_any (w : World) : Calls Tryz.prog 9 #[] w fun e w' => e = .returned (.bool true) ∧ Below w.heap.size w w' := by
  obtain ⟨tb, ht, hW⟩ := whole_file (l := L3) (size := 2) L3_ord (by decide) L3_byl (by decide) (by decide) (by decide)
  have hF9 := L3_file (k := 2) (by decide) (by decide)
  have W1 := write_calm (s := sT) (L := L3) (k := 2) okT (by decide) (by decide) (by decide) L3_ord
  have W2 := write_twice (s := sT) (L := L3) (k := 2) (F := fileE L3 2) (y := (fileE L3 2).length) okT (by decide) (by decide) (by decide) L3_ord
  have R1 := read_lone (s := sT) (fileE L3 2) (fileE L3 2).length okT
  obtain ⟨F, hF⟩ : ∃ F, fileE L3 2 = F := ⟨_, rfl⟩
  rw [hF] at ht hF9 W1 W2 R1
  have HT := Lib.hid ht
  have HW := Lib.hid hW
  have HF9 := Lib.hid hF9
  have HW1 := Lib.hid W1
  have HW2 := Lib.hid W2
  have HR1 := Lib.hid R1
  have e116 : Hid ((⟨#[116]⟩ : ByteArray) = sT) := Lib.hid rfl
  clear ht hW hF9 W1 W2 R1 hF
  go_enter Tryz.func9, Tryz.ntmps9
  go_upto_region 2 with (first
    | (go_at_call 11; refine (calm_any _).mono ?_; rintro e w1 ⟨rfl, hb⟩; have B1 := Lib.hid hb; clear hb)
    | (go_at_call 10; refine (new_calm w1).mono ?_; rintro e w2 ⟨g, p2, rfl, hps, hv, hb⟩; have E2 : Hid (PSt w2 w.heap.size g p2 ∧ p2.vm = calmV ∧ Below w.heap.size w w2) := Lib.hid ⟨hps.mono B1.out.size, hv, B1.out.trans (hb.mono B1.out.size)⟩; clear hps hv hb))
  have k1 := one_convN 98 w2 w2.heap.size rfl
  have k2 := one_convN 120 (w2.alloc (.cells #[.int .u8 98] 5 (1, 2))) (w2.heap.size + 1) (by simp)
  have k3 := one_convN 98 ((w2.alloc (.cells #[.int .u8 98] 5 (1, 2))).alloc (.cells #[.int .u8 120] 5 (1, 2))) (w2.heap.size + 1 + 1) (by simp)
  have k4 := one_convN 99 (((w2.alloc (.cells #[.int .u8 98] 5 (1, 2))).alloc (.cells #[.int .u8 120] 5 (1, 2))).alloc (.cells #[.int .u8 98] 5 (1, 2))) (w2.heap.size + 1 + 1 + 1) (by simp)
  go_upto_region 3 with fail
  clear k1 k2 k3 k4
  obtain ⟨z, hz⟩ : ∃ z, w2.heap.size = z := ⟨_, rfl⟩
  obtain ⟨hq, hs, hb⟩ := allocs_get [.cells #[.int .u8 98] 5 (1, 2), .cells #[.int .u8 120] 5 (1, 2), .cells #[.int .u8 98] 5 (1, 2), .cells #[.int .u8 99] 5 (1, 2), .cells #[.slice (some ⟨w2.heap.size, 0, none⟩) 1 1, .int .i64 5, .bool false, .slice (some ⟨w2.heap.size + 1, 0, none⟩) 1 1, .slice (some ⟨w2.heap.size + 1 + 1, 0, none⟩) 1 1, .int .i64 3, .bool false, .slice none 0 0, .slice (some ⟨w2.heap.size + 1 + 1 + 1, 0, none⟩) 1 1, .int .i64 4, .bool true, .slice none 0 0] 48] w2
  have q0 := hq 0 _ rfl
  have q1 := hq 1 _ rfl
  have q2 := hq 2 _ rfl
  have q3 := hq 3 _ rfl
  have q4 := hq 4 _ rfl
  simp only [List.foldl_cons, List.foldl_nil, List.length_cons, List.length_nil, Nat.reduceAdd, Nat.add_zero] at hs hb q0 q1 q2 q3 q4
  clear hq
  obtain ⟨w3, hw3⟩ : ∃ w3, (((((w2.alloc (.cells #[.int .u8 98] 5 (1, 2))).alloc (.cells #[.int .u8 120] 5 (1, 2))).alloc (.cells #[.int .u8 98] 5 (1, 2))).alloc (.cells #[.int .u8 99] 5 (1, 2))).alloc (.cells #[.slice (some ⟨w2.heap.size, 0, none⟩) 1 1, .int .i64 5, .bool false, .slice (some ⟨w2.heap.size + 1, 0, none⟩) 1 1, .slice (some ⟨w2.heap.size + 1 + 1, 0, none⟩) 1 1, .int .i64 3, .bool false, .slice none 0 0, .slice (some ⟨w2.heap.size + 1 + 1 + 1, 0, none⟩) 1 1, .int .i64 4, .bool true, .slice none 0 0] 48)) = w3 := ⟨_, rfl⟩
  rw [hw3] at q0 q1 q2 q3 q4 hs hb ⊢
  clear hw3
  have A3 : Hid (At3 z w3) := Lib.hid (by rw [hz] at q0 q1 q2 q3 q4; exact ⟨q0, q1, q2, q3, q4⟩)
  have E3 : Hid (PSt w3 w.heap.size g p2 ∧ p2.vm = calmV ∧ Below w.heap.size w w3 ∧ Clear p2 g z (z + 5) ∧ w3.heap.size = z + 5) := Lib.hid ⟨E2.out.1.kept hb, E2.out.2.1, E2.out.2.2.trans (hb.mono E2.out.2.2.size), fun k hk q => by have := (E2.out.1.owned k hk).2; omega, by rw [hs, hz]⟩
  rw [hz]
  rw [e116.out]
  clear q0 q1 q2 q3 q4 hs hb hz E2
  go_upto_region 5 with (first
    | (go_at_call 12; refine (write_three E3.out.1 E3.out.2.1 A3.out (fits_calm _ (by decide)) (by decide) HW1.out).mono ?_; rintro e w4 ⟨rfl, p4, s4, v4, d4⟩; obtain ⟨c4, k4⟩ := E3.out.2.2.2.1.rest d4 (Nat.le_of_eq E3.out.2.2.2.2.symm); have A4 := Lib.hid (A3.out.same k4); have E4 : Hid (PSt w4 w.heap.size g p4 ∧ p4.vm = loneV sT F F.length ∧ Below w.heap.size w w4 ∧ Clear p4 g z (z + 5) ∧ z + 5 ≤ w4.heap.size) := Lib.hid ⟨s4, v4, E3.out.2.2.1.trans (d4.below E3.out.2.2.1.size (fun k hk => (E3.out.1.owned k hk).1)), c4, by have := d4.size; have := E3.out.2.2.2.2; omega⟩; clear s4 v4 d4 c4 k4 A3 E3)
    | (go_at_call 12; refine (write_three E4.out.1 E4.out.2.1 A4.out (fits_lone (by decide) (by have := HF9.out; omega)) (by have := HF9.out; simp [loneV, sumM]; omega) HW2.out).mono ?_; rintro e w5 ⟨rfl, p5, s5, v5, d5⟩; have E5 : Hid (PSt w5 w.heap.size g p5 ∧ p5.vm = loneV sT F F.length ∧ Below w.heap.size w w5) := Lib.hid ⟨s5, v5, E4.out.2.2.1.trans (d5.below E4.out.2.2.1.size (fun k hk => (E4.out.1.owned k hk).1))⟩; clear s5 v5 d5 A4 E4)
    | (go_at_call 12; refine (write_any w.heap.size g p5 _ ⟨#[117]⟩ none [] 0 0 2 w5 E5.out.1 E5.out.2.1 (by decide) rfl (.inl rfl) (EIns.nil _) (fun q hq => (List.not_mem_nil hq).elim) (by decide) (by decide) (by decide) 0 (fun h => absurd rfl h) (fits_lone (by decide) (by have := HF9.out; omega)) (by have := HF9.out; simp [loneV, sumM]; omega) (by decide)).mono ?_; rw [show ers ([] : List En) = [] from rfl, write_none _ _ _ _ (by decide) (.inl rfl)]; rintro e w6 ⟨rfl, p6, s6, v6, d6⟩; have E6 : Hid (PSt w6 w.heap.size g p6 ∧ p6.vm = loneV sT F F.length ∧ Below w.heap.size w w6) := Lib.hid ⟨s6, v6, E5.out.2.2.trans (d6.below E5.out.2.2.size (fun k hk => (E5.out.1.owned k hk).1))⟩; clear s6 v6 d6 E5))
  have HOP := Lib.hid (open_any w.heap.size g p6 _ sT w6 E6.out.1 E6.out.2.1 (by decide) (fits_lone (by decide) (by have := HF9.out; omega)) (fun x hx => by rw [show (loneV sT F F.length).fs = [(sT, F, (F.length : Int))] from rfl, List.mem_singleton] at hx; subst hx; have := HF9.out; show F.length ≤ _; omega))
  rw [HR1.out] at HOP
  go_upto_region 8 with (go_at_call 17; refine HOP.out.mono ?_; rintro e w7 ⟨b7, h7⟩; obtain ⟨t, hts, rfl, hta, hcnt, hmb⟩ : ∃ t : Tm, t.tb = tb ∧ e = .returned (.tuple #[.pointer (some ⟨t.b, 0, none⟩), .int .i64 0]) ∧ TabAt w7 t ∧ t.cnt = 3 ∧ w6.heap.size ≤ t.mb := (by
    rcases h7 with ⟨h, -⟩ | ⟨-, h, -⟩ | ⟨-, t, h1, h2, h3, -, h5, h4⟩
    · exact absurd rfl h
    · rw [HT.out] at h; cases h
    · rw [HT.out] at h1
      injection h1 with h1
      exact ⟨t, h1.symm, h2, h3, by rw [h4, ← h1, HW.out.sum]; rfl, h5⟩); have E7 : Hid (t.tb = tb ∧ TabAt w7 t ∧ t.cnt = 3 ∧ Below w.heap.size w w7) := Lib.hid ⟨hts, hta, hcnt, E6.out.2.2.trans (b7.mono E6.out.2.2.size)⟩; have M7 : Hid (w.heap.size ≤ t.mb) := Lib.hid (Nat.le_trans E6.out.2.2.size hmb); clear hts hta hcnt b7 h7 hmb)
  have k5 := one_convN 98 w7 w7.heap.size rfl
  have HG : Hid (Calls Tryz.prog 23 #[.pointer (some ⟨t.b, 0, none⟩), .slice (some ⟨w7.heap.size, 0, none⟩) 1 1, .int .i64 4] (w7.alloc (.cells #[.int .u8 98] 5 (1, 2))) (GetE t [98] 4 (w7.alloc (.cells #[.int .u8 98] 5 (1, 2))))) := Lib.hid (get_any t ⟨some ⟨w7.heap.size, 0, none⟩, 1, [98]⟩ 4 _ (E7.out.2.1.kept (below_new _ _)) (one_at (heap_alloc_new w7 _) (by decide)) (by
    have h := HW.out.few
    rw [← E7.out.1] at h
    simp only [Tm.tb, List.length_map] at h
    have : L3.length = 3 := rfl
    omega))
  have HB8 := Lib.hid (below_new w7 (.cells #[.int .u8 98] 5 (1, 2)))
  go_upto_region 9 with (go_at_call 23; refine HG.out.mono ?_; rintro e w8 ⟨y, b, er, ha, rfl, -, -, ht8, hta8⟩; rw [E7.out.1, HW.out.get, L3_get] at ha; obtain ⟨hy, rfl, rfl⟩ := got_some ha; have HY : Hid (y.s = 3) := Lib.hid (congrArg (fun r : Er => r.2.1) hy); have T8 := Lib.hid ht8; have A8 := Lib.hid hta8; rw [En.val_eq]; clear ha ht8 hta8 hy)
  have HMB : Hid (Below w.heap.size w w8) := Lib.hid ((E7.out.2.2.2.trans (HB8.out.mono E7.out.2.2.2.size)).trans (T8.out.below M7.out (Nat.le_trans E7.out.2.2.2.size HB8.out.size)))
  obtain ⟨yn, hyn⟩ : ∃ q, y.k.l.length = q := ⟨_, rfl⟩
  obtain ⟨vn, hvn⟩ : ∃ q, y.v.l.length = q := ⟨_, rfl⟩
  obtain ⟨w9, hw9⟩ : ∃ w9, w8.alloc (.cells #[.slice y.k.a yn y.k.c, .int .i64 y.s, .bool y.d, .slice y.v.a vn y.v.c] 48) = w9 := ⟨_, rfl⟩
  have HC : Hid (Calls Tryz.prog 21 #[.pointer (some ⟨t.b, 0, none⟩)] w9 fun e w' => e = .returned (.int .i64 3) ∧ w' = w9) := Lib.hid (by
    have := count_any t w9 (A8.out.kept (hw9 ▸ below_new w8 _)).c
    rwa [E7.out.2.2.1] at this)
  have B9 : Hid (Below w.heap.size w w9) := Lib.hid (HMB.out.trans ((hw9 ▸ below_new w8 _ : Below w8.heap.size w8 w9).mono HMB.out.size))
  have x1 : w9.cell? ⟨w8.heap.size, 1, none⟩ = some (.int .i64 y.s) := by
    have := heap_alloc_new w8 (.cells #[.slice y.k.a yn y.k.c, .int .i64 y.s, .bool y.d, .slice y.v.a vn y.v.c] 48)
    rw [hw9] at this
    simp [World.cell?, this]
  have e3 : (y.s == 3) = true := by rw [HY.out]; rfl
  rw [hyn, hvn, hw9]
  clear hw9 hyn hvn k5
  go_wp2_with (go_at_call 21; refine HC.out.mono ?_; rintro e w' ⟨rfl, rfl⟩)
  go_ret
  exact ⟨rfl, B9.out⟩
end Go.Proofs.YtnoccpafjaoopaaGreat
namespace Go.Proofs.YtnoccpafjaoopaaGreat
open Go.RowKit Go.Shelf
attribute [local go_sem] Oper.semAt_some
/-- What stands while a nil table is asked; where it was left. -/
structure KN (H L : Nat) (w3 W : World) : Prop where
  kp : Kp (fun g => g < L ∧ ¬ (H ≤ g ∧ g < H + 3)) w3 W
  r0 : W.heap[H]? = some (.cells #[.slice none 0 0] 22 (0, 0))
  r1 : W.heap[H + 1]? = some (.cells #[.int .i64 0] 30 (0, 0))
  r2 : W.heap[H + 2]? = some (.cells #[.slice none 0 0] 22 (0, 0))
structure XN (H L : Nat) (w3 W : World) : Prop where
  kp : Kp (fun g => g < L ∧ ¬ (H ≤ g ∧ g < H + 3)) w3 W
  r0 : W.heap[H]? = some (.cells #[.slice none 0 0] 22 (0, 0))
  r1 : W.heap[H + 1]? = some (.cells #[.int .i64 1] 30 (0, 0))
section
variable {H L : Nat} {w3 W W' : World}
theorem KN.grow (h : KN H L w3 W) (hH : H + 3 ≤ L) (hz : L ≤ W.heap.size) {row : Option Nat} (hg : W.grownBy W' row) (hr : ∀ r, row = some r → L ≤ r) : KN H L w3 W' := by
  have hb : ∀ g, g < L → W'.heap[g]? = W.heap[g]? := fun g hl => hg.block g (by omega) (fun e => by have := hr g e.symm; omega)
  exact ⟨kp_step h.kp hg.os hg.tape hg.output hg.size (fun g q => hb g q.1), (hb _ (by omega)).trans h.r0, (hb _ (by omega)).trans h.r1, (hb _ (by omega)).trans h.r2⟩
theorem XN.grow (h : XN H L w3 W) (hH : H + 3 ≤ L) (hz : L ≤ W.heap.size) {row : Option Nat} (hg : W.grownBy W' row) (hr : ∀ r, row = some r → L ≤ r) : XN H L w3 W' := by
  have hb : ∀ g, g < L → W'.heap[g]? = W.heap[g]? := fun g hl => hg.block g (by omega) (fun e => by have := hr g e.symm; omega)
  exact ⟨kp_step h.kp hg.os hg.tape hg.output hg.size (fun g q => hb g q.1), (hb _ (by omega)).trans h.r0, (hb _ (by omega)).trans h.r1⟩
end
set_option maxRecDepth 100000 in
set_option maxHeartbeats 8000000 in
theorem all_nil (w : World) : Calls Tryz.prog 18 #[.pointer none, .slice none 0 0, .slice none 0 0] w fun e w' => e = .returned (.tuple #[.slice none 0 0, .int .i64 1]) ∧ Below w.heap.size w w' := by
  obtain ⟨hq, hs, hb⟩ := allocs_get [.cells #[.slice none 0 0] 22, .cells #[.int .i64 0] 30, .cells #[.slice none 0 0] 22] w
  have q0 := hq 0 _ rfl
  have q1 := hq 1 _ rfl
  have q2 := hq 2 _ rfl
  simp only [List.foldl_cons, List.foldl_nil, List.length_cons, List.length_nil, Nat.reduceAdd, Nat.add_zero] at hs hb q0 q1 q2
  clear hq
  obtain ⟨w2, hw2⟩ : ∃ w2, (((w.alloc (.cells #[.slice none 0 0] 22)).alloc (.cells #[.int .i64 0] 30)).alloc (.cells #[.slice none 0 0] 22)) = w2 := ⟨_, rfl⟩
  rw [hw2] at hs hb q0 q1 q2
  have HE := Lib.hid (entries_any none none none [] [] 0 0 0 0 w2 (in_nil w2) (in_nil w2) (by decide) (by decide))
  obtain ⟨H, hH⟩ : ∃ H, w.heap.size = H := ⟨_, rfl⟩
  rw [hH] at hs q0 q1 q2
  have HQ := Lib.hid (And.intro q0 (And.intro q1 q2))
  have HB := Lib.hid hb
  have HS := Lib.hid hs
  have HHH := Lib.hid hH
  clear q0 q1 q2 hb hs hH
  refine (callsIn_wide (n := 12)).1 ?_
  refine callsIn_of_wp_marks Tryz.func18 rfl trivial ?_ rfl
  simp only [Tryz.ntmps18, List.size_toArray, List.length_cons, List.length_nil, Nat.reduceAdd, Nat.reduceSub, Array.replicate_succ, Array.replicate_zero, List.push_toArray, List.append_toArray, List.nil_append, List.cons_append]
  gi_wp2
  refine ⟨trivial, ?_⟩
  refine (callsIn_wide.2 HE.out).mono ?_
  rintro e w3 ⟨rfl, b3, h3, lo, hi, hlo, hhi, e1, e2, rl, rh⟩
  gi_wp2
  rw [HS.out] at h3 e1 e2 ⊢
  obtain ⟨L, hL⟩ : ∃ L, w3.heap.size = L := ⟨_, rfl⟩
  have hHL : H + 6 ≤ L := by
    have := (Array.getElem?_eq_some_iff.1 e2).1
    omega
  have HB3 : Hid (Below w.heap.size w w3) := Lib.hid (HB.out.trans (b3.mono HB.out.size))
  have HI0 : Hid (KN H L w3 w3) := Lib.hid ⟨Kp.refl _ _, (b3.block _ (by rw [HS.out]; omega)).trans HQ.out.1, (b3.block _ (by rw [HS.out]; omega)).trans HQ.out.2.1, (b3.block _ (by rw [HS.out]; omega)).trans HQ.out.2.2⟩
  have E3 := Lib.hid h3
  have hOI : OwnAt L (fun (_ : Unit) => KN H L w3) := fun s W W' row h hg hr => h.grow (by omega) (by have := h.kp.size; omega) hg (fun r e => by have := (hr r e).1; omega)
  have hOX : OwnAt L (fun (_ : Unit) => XN H L w3) := fun s W W' row h hg hr => h.grow (by omega) (by have := h.kp.size; omega) hg (fun r e => by have := (hr r e).1; omega)
  replace hOI : OwnAt w3.heap.size (fun (_ : Unit) => KN H L w3) := by rw [hL]; exact hOI
  replace hOX : OwnAt w3.heap.size (fun (_ : Unit) => XN H L w3) := by rw [hL]; exact hOX
  rw [HHH.out]
  clear h3 e1 e2 rl rh b3 HE hw2 HQ HB hlo hhi lo hi
  refine range_toldK (σ := Unit) (gf := 52) (lb := #[.pointer (some ⟨H + 3, 0, none⟩), .pointer (some ⟨H + 3 + 1, 0, none⟩), .pointer (some ⟨H + 3 + 2, 0, none⟩)]) rfl (enters_of Tryz.func52 (by kernel_rfl) rfl)
    (fun _ => KN H L w3) (fun _ => XN H L w3) (fun _ => .ret) hOI hOX (fun _ _ _ _ => False) (fun _ args _ _ => args = #[.agg #[.slice none 0 0, .int .i64 0, .bool false, .slice none 0 0], .int .i64 1]) () HI0.out (fun _ => False) (fun _ => True) ?size ?on ?off ?iter ?done ?left
  case size =>
    rintro s args s' W (h | rfl)
    · exact h.elim
    · rfl
  case on =>
    rintro s args s' W h
    exact h.elim
  case done =>
    rintro s W h
    exact h.elim
  case iter =>
    intro R R' hR hRs hyes hno hR' hRs' W hi' hr
    rw [hL] at hR hRs hno ⊢
    refine (entries_none 10 (L + 1) (H + 3) (H + 3 + 1) (H + 3 + 2) W (fun W' => XN H L w3 W' ∧ R' () W') ?_ (fun w' hb => ?_)).mono ?_
    · have := (hi'.kp.block (H + 3) ⟨by omega, by omega⟩).trans E3.out
      simp [World.cell?, this]
    · have hk : KN H L w3 w' := hi'.grow (by omega) (by have := hi'.kp.size; omega) (below_grown hb) (fun r e => by cases e)
      obtain ⟨hz, ⟨X, e1⟩, d, e2⟩ := hRs W hr
      have hr' : R w' := hR W w' hr ⟨(obj_kept e2 hb (Nat.le_refl _)).trans e2.symm, (obj_kept e1 hb (Nat.le_refl _)).trans e1.symm⟩
      refine YieldAt.mono (YieldAt.any (hno () _ () w' rfl hk hr')) ?_
      rintro e W' ⟨rfl, k1, k2⟩
      exact ⟨⟨_, rfl⟩, k1, k2⟩
    · rintro e W' ⟨hv, k1, k2⟩
      exact ⟨hv, .inr ⟨(), trivial, k1, k2⟩⟩
  case left =>
    rintro s W - hi' hK
    rw [hL] at hK ⊢
    have k0 : (W.putObj L (.deferred none)).cell? ⟨H, 0, none⟩ = some (.slice none 0 0) := by have : (W.putObj L (.deferred none)).heap[H]? = _ := (World.putObj_heap_other (by omega)).trans hi'.r0; simp [World.cell?, this]
    have k1 : (W.putObj L (.deferred none)).cell? ⟨H + 1, 0, none⟩ = some (.int .i64 1) := by have : (W.putObj L (.deferred none)).heap[H + 1]? = _ := (World.putObj_heap_other (by omega)).trans hi'.r1; simp [World.cell?, this]
    have HK := Lib.hid (And.intro hK (And.intro k0 k1))
    have HW : Hid (Below w.heap.size w (W.putObj L (.deferred none))) := Lib.hid (by
      have h1 := HB3.out
      have hg := grownBy_putObj' W L (.deferred none)
      have hp := hi'.kp
      refine ⟨hp.os.trans h1.os, hp.tape.trans h1.tape, hp.output.trans h1.output, Nat.le_trans h1.size (Nat.le_trans hp.size hg.size), fun g hg2 => ?_⟩
      have hH := HHH.out
      exact (World.putObj_heap_other (by omega)).trans ((hp.block g ⟨by omega, by omega⟩).trans (h1.block g hg2)))
    clear k0 k1 hK hi' hOI hOX
    gi_wp2
    obtain ⟨hK2, k0, k1⟩ := HK.out
    refine ⟨by simp, .inl ⟨_, _, rfl, run_takeDeferred hK2, ?_⟩⟩
    refine ⟨.tuple #[.slice none 0 0, .int .i64 1], ?_, rfl, HW.out⟩
    simp [results, Tryz.f18, go_sem, k0, k1]
  case off =>
    rintro s args s' W rfl hi' hsz
    rw [hL] at hsz
    unfold RoundOf
    rw [hL]
    gi_wp2
    refine ⟨Two.below ((Below.refl (L + 2) W).alloc hsz _) (by omega), fun W₂ g2 hl => ?_⟩
    have k1 := hi'.grow (by omega) (by omega) (World.grownBy_alloc W (.cells #[.slice none 0 0, .int .i64 0, .bool false, .slice none 0 0] 48) none) (fun r e => by cases e)
    have k2 := k1.grow (by omega) (by have := k1.kp.size; omega) g2 (fun r e => by injection e with e; omega)
    clear g2 hl k1
    have x2 : W₂.cell? ⟨H + 1 + 1, 0, none⟩ = some (.slice none 0 0) := by have := k2.r2; simp [World.cell?, this]
    have p0 : W₂.cell? ⟨H, 0, none⟩ = some (.slice none 0 0) := by have := k2.r0; simp [World.cell?, this]
    have f0 : W₂.frozen? ⟨H, 0, none⟩ = false := by have := k2.r0; simp [World.frozen?, this]
    have p1 : W₂.cell? ⟨H + 1, 0, none⟩ = some (.int .i64 0) := by have := k2.r1; simp [World.cell?, this]
    have f1 : W₂.frozen? ⟨H + 1, 0, none⟩ = false := by have := k2.r1; simp [World.frozen?, this]
    obtain ⟨P1, P2⟩ := set_pair (u := .slice none 0 0) (v := .int .i64 1) k2.r0 k2.r1 (by omega)
    have P3 := set_pair_other W₂ H (H + 1)
    have hall : ∀ g, g ≠ H → g ≠ H + 1 → ((W₂.setCell ⟨H, 0, none⟩ (.slice none 0 0)).setCell ⟨H + 1, 0, none⟩ (.int .i64 1)).heap[g]? = W₂.heap[g]? := fun g h1 h2 => P3 g _ _ h1 h2
    have HX : Hid (Two L W₂ ((W₂.setCell ⟨H, 0, none⟩ (.slice none 0 0)).setCell ⟨H + 1, 0, none⟩ (.int .i64 1)) ∧ XN H L w3 ((W₂.setCell ⟨H, 0, none⟩ (.slice none 0 0)).setCell ⟨H + 1, 0, none⟩ (.int .i64 1))) := Lib.hid
      ⟨⟨hall _ (by omega) (by omega), hall _ (by omega) (by omega)⟩, ⟨kp_step k2.kp rfl rfl rfl (by simp) (fun g hg => hall g (by omega) (by omega)), P1, P2⟩⟩
    clear k2 P1 P2 P3 hall hsz hOI hOX hi'
    gi_wp2
    exact ⟨rfl, HX.out⟩
end Go.Proofs.YtnoccpafjaoopaaGreat
namespace Go.Proofs.YtnoccpafjaoopaaGreat
open Go.ChangeShapes Go.WideShapes Go.ChangeAt Go.RowKit
theorem in_row (w : World) (x : Addr) (l c : Nat) (zs : List Int) (hl : l ≤ c) (hm : c ≤ maxLen) (hz : zs.length = c) (hcell : ∀ i, i < zs.length → w.cell? (x.add i) = some (.int .u8 (zs.getD i 0))) (hwz : ∀ n ∈ zs, (Lit.int .u8 n).wf = true) : In w (some x) (zs.take l) l c := by
  refine ⟨by simp; omega, hl, by unfold maxLen at hm; omega, .inr ⟨x, rfl, fun j y hy => ?_⟩, fun y hy => ?_⟩
  · rw [List.getElem?_take] at hy
    split at hy
    · have hj := (List.getElem?_eq_some_iff.1 hy).1
      rw [hcell j hj, List.getD_eq_getElem?_getD, hy]
      rfl
    · cases hy
  · have := hwz y (List.mem_of_mem_take hy)
    simp [Lit.wf, IntKind.min, IntKind.max, IntKind.signed, IntKind.bits] at this
    omega
theorem bulk_one {H : Type} (d : DataW H) : 1 ≤ Rows.uptoBulk d := by
  cases d with
  | lit l => cases l <;> simp [Rows.uptoBulk]
  | nil => simp [Rows.uptoBulk]
  | ptr d => simp [Rows.uptoBulk]
  | slice elems spare => simp [Rows.uptoBulk]
  | agg parts => simp [Rows.uptoBulk]
  | iface t d => simp [Rows.uptoBulk]
  | map entries => simp [Rows.uptoBulk]
  | held h => simp [Rows.uptoBulk]
theorem bulk_in {H : Type} {d : DataW H} {l : List (DataW H)} (h : d ∈ l) : Rows.uptoBulk d ≤ Rows.uptoBulkAll l := by
  induction l with
  | nil => cases h
  | cons x r ih =>
    simp only [Rows.uptoBulkAll]
    rcases List.mem_cons.1 h with e | e
    · subst e
      omega
    · have := ih e
      omega
theorem bulk_length {H : Type} (l : List (DataW H)) : l.length ≤ Rows.uptoBulkAll l := by
  induction l with
  | nil => simp [Rows.uptoBulkAll]
  | cons x r ih =>
    have := bulk_one x
    simp only [Rows.uptoBulkAll, List.length_cons]
    omega
theorem list_of {α : Type} {P : Nat → α → Prop} : ∀ n : Nat, (∀ i, i < n → ∃ q, P i q) → ∃ l : List α, l.length = n ∧ ∀ i q, l[i]? = some q → P i q
  | 0, _ => ⟨[], rfl, fun i q h => by simp at h⟩
  | n + 1, h => by
    obtain ⟨l, hl, hp⟩ := list_of n (fun i hi => h i (by omega))
    obtain ⟨q, hq⟩ := h n (by omega)
    refine ⟨l ++ [q], by simp [hl], fun i p hi => ?_⟩
    rcases Nat.lt_or_ge i n with k | k
    · exact hp i p (by rwa [List.getElem?_append_left (by omega)] at hi)
    · have hlt := (List.getElem?_eq_some_iff.1 hi).1
      simp only [List.length_append, List.length_singleton] at hlt
      have e : i = n := by omega
      subst e
      rw [List.getElem?_append_right (by omega), hl] at hi
      simp at hi
      subst hi
      exact hq
theorem weights_all {H : Type} {P : Program} {e : TypeId} {l : List (DataW H)} {d : DataW H} (h : d ∈ l) : ∀ n ∈ d.weights P e, n ∈ DataW.weightsAll P e l := by
  induction l with
  | nil => cases h
  | cons x r ih =>
    intro n hn
    simp only [DataW.weightsAll, List.mem_append]
    rcases List.mem_cons.1 h with k | k
    · subst k
      exact .inl hn
    · exact .inr (ih k n hn)
theorem cells48 : Tryz.prog.cellsOf 48 = 4 := by kernel_rfl
theorem cells42 : Tryz.prog.cellsOf 42 = 1 := by kernel_rfl
theorem cells3 : Tryz.prog.cellsOf 3 = 1 := by kernel_rfl
theorem cells4 : Tryz.prog.cellsOf 4 = 1 := by kernel_rfl
theorem bytes8 : Tryz.prog.bytesOf 5 = 1 := by kernel_rfl
theorem bytesEntry : Tryz.prog.bytesOf 48 = 64 := by kernel_rfl
section
variable {H : Type} {enc : TypeId × Value → H} {W : World} {fuel : Nat} {cs : List Value} {x : DataW H × List MemPlace}
/-- Bytes, read. -/
theorem open_byts (h : DataW.trod enc Tryz.prog W 0 (fun _ => true) true fuel 42 cs = some x) :
    ∃ s : Sl, cs = [s.val] ∧ In W s.a s.l s.l.length s.c ∧ s.l.length + 1 ≤ Rows.uptoBulk x.1 ∧ ((∀ n ∈ x.1.weights Tryz.prog 42, n ≤ reachBytes) → s.l.length ≤ 140737488351232) := by
  rcases open_ints Tryz.underlying42 Tryz.underlying5 (by kernel_rfl) h with ⟨hc0, hx⟩ | ⟨y, l, d, zs, hc0, _, hl', hm', hz, hxx, hcell, hwz⟩
  · exact ⟨⟨none, 0, []⟩, hc0, in_nil W, bulk_one _, fun _ => by simp⟩
  · simp only [if_true] at hz
    have hin := in_row W y l d zs hl' hm' hz hcell hwz
    refine ⟨⟨some y, d, zs.take l⟩, ?_, hin.of_n, ?_, fun hw => ?_⟩
    · rw [hc0]
      show _ = [Value.slice (some y) (zs.take l).length d]
      rw [hin.len]
    · rw [hxx]
      have h2 := bulk_length (H := H) (lits .u8 (zs.take l))
      simp only [lits, List.length_map] at h2
      simp only [Rows.uptoBulk, lits]
      omega
    · have := hw (((lits (H := H) .u8 (zs.take l)).length + (lits (H := H) .u8 (zs.drop l)).length) * Tryz.prog.bytesOf 5) (by
        rw [hxx]
        simp only [DataW.weights, Tryz.underlying42]
        exact List.mem_cons_self)
      rw [bytes8] at this
      simp only [lits, List.length_map, reachBytes] at this
      show (zs.take l).length ≤ _
      omega
theorem open_text (h : DataW.trod enc Tryz.prog W 0 (fun _ => true) true fuel 9 cs = some x) :
    ∃ s : ByteArray, cs = [.string s] ∧ s.size + 1 ≤ Rows.uptoBulk x.1 ∧ ((∀ n ∈ x.1.weights Tryz.prog 9, n ≤ reachBytes) → s.size ≤ 140737488351232) := by
  obtain ⟨r, e6, e7, _⟩ := DataW.trod_string Tryz.underlying9 h
  have e : r.data.toList.length = r.size := by cases r; rfl
  refine ⟨r, e6, ?_, fun hw => ?_⟩
  · rw [e7]
    simp only [Rows.uptoBulk]
    omega
  · have := hw r.data.toList.length (by rw [e7]; simp [DataW.weights])
    rw [e] at this
    exact this
theorem open_num (h : DataW.trod enc Tryz.prog W 0 (fun _ => true) true fuel 3 cs = some x) : ∃ k : Int, cs = [.int .i64 k] ∧ -9223372036854775808 ≤ k ∧ k ≤ 9223372036854775807 := by
  obtain ⟨k, e3, e4, e5⟩ := DataW.trod_int Tryz.underlying3 h
  refine ⟨k, e3, ?_⟩
  simpa [Lit.wf, IntKind.min, IntKind.max, IntKind.signed, IntKind.bits] using e5
set_option maxRecDepth 100000 in
set_option maxRecDepth 100000 in
/-- An entry, read. -/
theorem open_entry (h : DataW.trod enc Tryz.prog W 0 (fun _ => true) true fuel 48 cs = some x) :
    ∃ q : En, cs = q.cells ∧ (In W q.k.a q.k.l q.k.l.length q.k.c ∧ In W q.v.a q.v.l q.v.l.length q.v.c) ∧ (-9223372036854775808 ≤ q.s ∧ q.s ≤ 9223372036854775807) ∧ q.k.l.length + q.v.l.length + 5 ≤ Rows.uptoBulk x.1 ∧ ((∀ n ∈ x.1.weights Tryz.prog 48, n ≤ reachBytes) → q.k.l.length ≤ 140737488351232 ∧ q.v.l.length ≤ 140737488351232) := by
  obtain ⟨xs, n, -, rfl, hlen, hxl, hf⟩ := DataW.trod_struct Tryz.underlying48 h
  rw [cells48] at hlen
  have h0 : DataW.trod enc Tryz.prog W 0 (fun _ => true) true n 42 ((cs.drop 0).take (Tryz.prog.cellsOf 42)) = xs[0]? := hf 0 _ rfl
  have h1 : DataW.trod enc Tryz.prog W 0 (fun _ => true) true n 3 ((cs.drop 1).take (Tryz.prog.cellsOf 3)) = xs[1]? := hf 1 _ rfl
  have h2 : DataW.trod enc Tryz.prog W 0 (fun _ => true) true n 4 ((cs.drop 2).take (Tryz.prog.cellsOf 4)) = xs[2]? := hf 2 _ rfl
  have h3 : DataW.trod enc Tryz.prog W 0 (fun _ => true) true n 42 ((cs.drop 3).take (Tryz.prog.cellsOf 42)) = xs[3]? := hf 3 _ rfl
  rw [cells42] at h0 h3
  rw [cells3] at h1
  rw [cells4] at h2
  match cs, hlen, xs, hxl with
  | [u, v, t, r], _, [y0, y1, y2, y3], _ =>
    obtain ⟨s, e1, e2, e3, e4⟩ := open_byts (h0.trans rfl)
    obtain ⟨k, g1, g2⟩ := open_num (h1.trans rfl)
    obtain ⟨b, b1, -⟩ := DataW.trod_bool Tryz.underlying4 (h2.trans rfl)
    obtain ⟨d, f1, f2, f3, f4⟩ := open_byts (h3.trans rfl)
    have a1 : u = s.val := by simpa using e1
    have a2 : v = .int .i64 k := by simpa using g1
    have a3 : t = .bool b := by simpa using b1
    have a4 : r = d.val := by simpa using f1
    subst a1
    subst a2
    subst a3
    subst a4
    refine ⟨⟨s, k, b, d⟩, rfl, ⟨e2, f2⟩, g2, ?_, fun hw => ⟨e4 (fun m hm => hw m ?_), f4 (fun m hm => hw m ?_)⟩⟩
    · have h4 := bulk_one y1.1
      have h5 := bulk_one y2.1
      simp only [Rows.uptoBulk, Rows.uptoBulkAll, List.map_cons, List.map_nil] at e3 f3 ⊢
      omega
    · simp only [DataW.weights, Tryz.underlying48]
      exact DataW.weights_mem_each (j := 0) (t := 42) rfl rfl m hm
    · simp only [DataW.weights, Tryz.underlying48]
      exact DataW.weights_mem_each (j := 3) (t := 42) rfl rfl m hm
theorem bulk_add {α : Type} (f : α → Nat) : ∀ (T : List α) (ds : List (DataW H)), T.length = ds.length → (∀ (i : Nat) (s : α) (d : DataW H), T[i]? = some s → ds[i]? = some d → f s + 1 ≤ Rows.uptoBulk d) → (T.map f).sum + T.length ≤ Rows.uptoBulkAll ds
  | [], [], _, _ => by simp [Rows.uptoBulkAll]
  | [], _ :: _, h, _ => by simp at h
  | _ :: _, [], h, _ => by simp at h
  | s :: T, d :: ds, h, hp => by
    have ih := bulk_add f T ds (by simpa using h) (fun i s d h1 h2 => hp (i + 1) s d (by simpa using h1) (by simpa using h2))
    have h0 := hp 0 s d rfl rfl
    simp only [List.map_cons, List.sum_cons, List.length_cons, Rows.uptoBulkAll] at ih ⊢
    omega
theorem flat_get {α : Type} (f : α → List Value) (k : Nat) (hk : ∀ a, (f a).length = k) (h0 : 0 < k) : ∀ (l : List α) (j : Nat) (u : Value), (l.flatMap f)[j]? = some u → ∃ a, l[j / k]? = some a ∧ (f a)[j % k]? = some u
  | [], j, u, h => by simp at h
  | a :: l, j, u, h => by
    rw [List.flatMap_cons] at h
    by_cases hj : j < k
    · rw [List.getElem?_append_left (by rw [hk]; omega)] at h
      exact ⟨a, by rw [Nat.div_eq_of_lt hj]; rfl, by rw [Nat.mod_eq_of_lt hj]; exact h⟩
    · rw [List.getElem?_append_right (by rw [hk]; omega), hk] at h
      obtain ⟨b, h1, h2⟩ := flat_get f k hk h0 l (j - k) u h
      refine ⟨b, ?_, ?_⟩
      · rw [Nat.div_eq_sub_div h0 (by omega)]
        simpa using h1
      · rw [Nat.mod_eq_sub_mod (by omega)]
        exact h2
/-- A slice of structs, read. -/
theorem open_rows {α : Type} {t e : TypeId} (f : α → List Value) (k : Nat) (hk : ∀ a, (f a).length = k) (h0 : 0 < k) (hc : Tryz.prog.cellsOf e = k) (ht : Tryz.prog.underlying t = some (.slice e)) (h : DataW.trod enc Tryz.prog W 0 (fun _ => true) true fuel t cs = some x) (A : Option Addr) (n c : Nat) (hcs : cs = [.slice A n c])
    (P : α → DataW H → Prop) (hP : ∀ m (cs' : List Value) (y : DataW H × List MemPlace), DataW.trod enc Tryz.prog W 0 (fun _ => true) true m e cs' = some y → (Rows.uptoBulk y.1 ≤ Rows.uptoBulk x.1) → (∀ z ∈ y.1.weights Tryz.prog e, z ∈ x.1.weights Tryz.prog t) → ∃ a, cs' = f a ∧ P a y.1) :
    ∃ l : List α, l.length = n ∧ (n ≤ c ∧ (c : Int) ≤ 9223372036854775807) ∧ Lies W A (l.flatMap f) ∧ ∃ ds : List (DataW H), l.length = ds.length ∧ (∀ (i : Nat) (a : α) (d : DataW H), l[i]? = some a → ds[i]? = some d → P a d) ∧ Rows.uptoBulkAll ds + 1 ≤ Rows.uptoBulk x.1 ∧ ((∀ z ∈ x.1.weights Tryz.prog t, z ≤ reachBytes) → n * Tryz.prog.bytesOf e ≤ reachBytes) := by
  rcases Go.Deep.open_slice ht h with ⟨h1, hx⟩ | ⟨a, len, cap, m, fu, D, Pl, h1, _, hl, hm, hmm, hx, hi⟩
  · rw [h1] at hcs
    injection hcs with e1
    injection e1 with e1 e2 e3
    subst e1 e2 e3
    exact ⟨[], rfl, ⟨Nat.le_refl _, by decide⟩, .inl rfl, [], rfl, fun i a d h => by simp at h, by rw [hx]; simp [Rows.uptoBulk, Rows.uptoBulkAll], fun _ => by simp⟩
  · rw [h1] at hcs
    injection hcs with e1
    injection e1 with e1 e2 e3
    subst e1 e2 e3
    simp only [if_true] at hmm
    subst hmm
    rw [hc] at hi
    have hx1 : x.1 = .slice ((List.range len).map D) ((List.range (m - len)).map fun j => D (len + j)) := by rw [hx]
    obtain ⟨l, hll, hq⟩ := list_of (P := fun i (q : α) => P q (D i) ∧ ∀ j u, (f q)[j]? = some u → W.cell? (a.add (i * k + j)) = some u) len (fun i hlt => by
      obtain ⟨cs', hc', ht'⟩ := hi i (by omega)
      obtain ⟨_, _, hat⟩ := World.cells?_some hc'
      have hmem : D i ∈ (List.range len).map D := List.mem_map_of_mem (List.mem_range.2 hlt)
      obtain ⟨q, e1, e2⟩ := hP _ _ _ ht' (by
        rw [hx1]
        have := bulk_in hmem
        simp only [Rows.uptoBulk]
        show Rows.uptoBulk (D i) ≤ _
        omega) (fun z hz => by
        rw [hx1]
        simp only [DataW.weights, ht]
        exact List.mem_cons_of_mem _ (List.mem_append.2 (.inl (weights_all hmem _ hz))))
      refine ⟨q, e2, fun j u hj => ?_⟩
      have hj3 : j < k := by
        have := (List.getElem?_eq_some_iff.1 hj).1
        rwa [hk] at this
      rw [← add_add, hat j hj3, e1]
      exact hj)
    refine ⟨l, hll, ⟨hl, by unfold maxLen at hm; omega⟩, .inr ⟨a, rfl, fun j u hj => ?_⟩, (List.range len).map D, by simp [hll], fun i q d h1 h2 => ?_, ?_, fun hw => ?_⟩
    · obtain ⟨q, e1, e2⟩ := flat_get f k hk h0 l j u hj
      have := (hq _ q e1).2 _ u e2
      rwa [show j / k * k + j % k = j by rw [Nat.mul_comm]; exact Nat.div_add_mod j k] at this
    · have hlt := (List.getElem?_eq_some_iff.1 h1).1
      rw [List.getElem?_map, List.getElem?_range (by omega)] at h2
      simp only [Option.map_some, Option.some.injEq] at h2
      rw [← h2]
      exact (hq i q h1).1
    · rw [hx1]
      simp only [Rows.uptoBulk]
      omega
    · have := hw ((((List.range len).map D).length + ((List.range (m - len)).map fun j => D (len + j)).length) * Tryz.prog.bytesOf e) (by
        rw [hx1]
        simp only [DataW.weights, ht]
        exact List.mem_cons_self)
      simp only [List.length_map, List.length_range] at this
      refine Nat.le_trans (Nat.mul_le_mul_right _ ?_) this
      omega
/-- Entries that come in. -/
structure EsIn (w : World) (A : Option Addr) (l : List En) (n c : Nat) : Prop where
  len : l.length = n
  lies : Lies w A (evals l)
  ins : EIns w l
  few : n * 64 ≤ 140737488351232
  long : ∀ q ∈ l, q.k.l.length ≤ 140737488351232 ∧ q.v.l.length ≤ 140737488351232
theorem open_entries (h : DataW.trod enc Tryz.prog W 0 (fun _ => true) true fuel 22 cs = some x) (hsz : ∀ n ∈ x.1.weights Tryz.prog 22, n ≤ reachBytes) (A : Option Addr) (n c : Nat) (hcs : cs = [.slice A n c]) : ∃ l, EsIn W A l n c := by
  obtain ⟨l, h1, -, h2, ds, h3, h4, h5, h6⟩ := open_rows (α := En) En.cells 4 (fun _ => rfl) (by omega) cells48 Tryz.underlying22 h A n c hcs (fun q _ => (In W q.k.a q.k.l q.k.l.length q.k.c ∧ In W q.v.a q.v.l q.v.l.length q.v.c) ∧ q.k.l.length ≤ 140737488351232 ∧ q.v.l.length ≤ 140737488351232) (fun m cs' y hy _ hw => by
    obtain ⟨q, e1, e2, _, _, e5⟩ := open_entry hy
    exact ⟨q, e1, e2, e5 (fun z hz => hsz z (hw z hz))⟩)
  have hall : ∀ q ∈ l, (In W q.k.a q.k.l q.k.l.length q.k.c ∧ In W q.v.a q.v.l q.v.l.length q.v.c) ∧ q.k.l.length ≤ 140737488351232 ∧ q.v.l.length ≤ 140737488351232 := fun q hq => by
    obtain ⟨i, hi, e⟩ := List.mem_iff_getElem.1 hq
    exact h4 i q (ds[i]'(by omega)) (by rw [List.getElem?_eq_getElem hi, e]) (List.getElem?_eq_getElem (by omega))
  have h7 := h6 hsz
  rw [bytesEntry] at h7
  exact ⟨l, h1, h2, fun q hq => (hall q hq).1, h7, fun q hq => (hall q hq).2⟩
end
end Go.Proofs.YtnoccpafjaoopaaGreat
namespace Go.Proofs.YtnoccpafjaoopaaGreat
open Go.RowKit
theorem wpList_append_zero (w : World) {ops : Array Oper} {rest : List Oper} {o : Oper} {a : Act} {Q : Exit → Act → World → Prop} (hgd : o.guard = none) (s x : Operand)
    (ho : o.op = .call { callee := .builtin .append, args := #[s, x], argTypes := #[42, 42] })
    (g : Nat) (M : List Int) (C : Option Addr) (m cm : Nat) (hs : a.eval s = .slice (some ⟨g, 0, none⟩) 0 0) (hx : a.eval x = .slice C m cm) (em : M.length = m) (h : Lit0 w g) (hm : Bys w C M) (hr : M.length ≤ 140737488355328)
    (k : ∀ A' c' w', Row w' g A' c' M → Below w.heap.size w w' → wpList Tryz.prog ops Q rest (a.put o.dst (.slice A' m c')) w') : wpList Tryz.prog ops Q (o :: rest) a w := by
  subst em
  refine wpList_plain hgd fun K hK => ?_
  obtain ⟨A', c', w', r, h2, h3⟩ := run_append_zero w o.type g M C cm h hm hr
  have k' := k A' c' w' h2 h3
  unfold Oper.wp execOp
  simp only [ho, resolve, invoke, builtin, Sem.run_bind, Sem.run_pure, Result.andThen_ok, List.map_toArray, List.map_cons, List.map_nil, hs, hx, r]
  exact hK _ _ k'
set_option maxRecDepth 100000 in
set_option maxHeartbeats 8000000 in
theorem lawNil (A B : Option Addr) (l : List En) (K : List Int) (n c m d : Nat) (w : World) (hn : l.length = n) (h : Lies w A (evals l)) (hi : EIns w l) (hl : n * 64 ≤ 140737488351232) (hs : ∀ q ∈ l, q.k.l.length ≤ 140737488351232 ∧ q.v.l.length ≤ 140737488351232) (hk : In w B K m d) (hm : m ≤ 140737488351232) :
    Calls Tryz.prog 7 #[.slice A n c, .slice B m d] w fun e w' => e = .returned (.bool true) ∧ Below w.heap.size w w' := by
  have HCP : Hid (∀ W, Below w.heap.size w W → Calls Tryz.prog 13 #[.slice A n c] W (ECopied W l)) := Lib.hid (fun W hb => refCopy_any A l n c W hn (h.kept hb) (hi.kept hb) hl hs)
  have HK : Hid (∀ W, Below w.heap.size w W → In W B K m d) := Lib.hid (fun W hb => hk.kept hb)
  have HM := Lib.hid (And.intro hk.len hm)
  clear h hi hk hn hl hs hm
  go_enter Tryz.func7, Tryz.ntmps7
  go_upto_region 5 with (first
    | (go_at_call 9; refine (wakes_any _).mono ?_; rintro e w1 ⟨rfl, hb⟩; have B1 := Lib.hid hb; clear hb)
    | (at_builtin; refine wpList_append_zero _ (by rfl) (.tmp 19) (.tmp 20) (by rfl) w1.heap.size K B m d (by rfl) (by rfl) HM.out.1 (Lit0.new _ _ rfl) ((HK.out _ B1.out).kept (below_new _ _)).bys (by rw [HM.out.1]; have := HM.out.2; omega) ?_; intro A2 c2 w2 r2 b2; have B2 := Lib.hid (below_then (below_then B1.out (below_new w1 _)) b2); clear r2 b2)
    | (go_at_call 23; refine (get_nil _ _ _ _ _).mono ?_; rintro e w3 ⟨rfl, hb⟩; have B3 := Lib.hid (below_then B2.out hb); clear hb))
  obtain ⟨w4, hw4⟩ : ∃ w4, w3.alloc (.cells #[.slice none 0 0, .int .i64 0, .bool false, .slice none 0 0] 48) = w4 := ⟨_, rfl⟩
  have B4 : Hid (Below w.heap.size w w4) := Lib.hid (below_then B3.out (hw4 ▸ below_new w3 _))
  have HX : Hid (∀ W, Below w4.heap.size w4 W → W.cell? ⟨w3.heap.size, 0, none⟩ = some (.slice none 0 0) ∧ W.cell? ⟨w3.heap.size, 1, none⟩ = some (.int .i64 0) ∧ W.cell? ⟨w3.heap.size, 2, none⟩ = some (.bool false) ∧ W.cell? ⟨w3.heap.size, 3, none⟩ = some (.slice none 0 0)) := Lib.hid (fun W hb => by
    have := obj_kept (by rw [← hw4]; exact heap_alloc_new w3 (.cells #[.slice none 0 0, .int .i64 0, .bool false, .slice none 0 0] 48)) hb (Nat.le_refl _)
    refine ⟨?_, ?_, ?_, ?_⟩ <;> simp [World.cell?, this])
  rw [hw4]
  clear hw4
  go_upto_region 8 with (first
    | (go_at_call 18; refine (all_nil _).mono ?_; rintro e w5 ⟨rfl, hb⟩; have B5 := Lib.hid hb; clear hb)
    | (go_at_call 19; refine (bounds_nil _).mono ?_; rintro e w' ⟨rfl, rfl⟩)
    | (go_at_call 17; refine (open_nil _ _).mono ?_; rintro e w6 ⟨rfl, hb⟩; have B6 := Lib.hid (below_then B5.out hb); clear hb))
  obtain ⟨x0, x1, x2, x3⟩ := HX.out w6 B6.out
  have E6 : Hid (Below w.heap.size w w6) := Lib.hid (below_then B4.out B6.out)
  have HSO : Hid (Calls Tryz.prog 25 #[.agg #[.slice none 0 0, .int .i64 0, .bool false, .slice none 0 0], .agg #[.slice none 0 0, .int .i64 0, .bool false, .slice none 0 0]] w6 fun e w' => e = .returned (.bool true) ∧ Below w6.heap.size w6 w') := Lib.hid (by
    have := refSameOne_any zeroEn zeroEn w6 ⟨in_nil _, in_nil _⟩ ⟨in_nil _, in_nil _⟩
    rwa [decide_eq_true rfl] at this)
  go_wp2_with (first
    | (go_at_call 25; refine HSO.out.mono ?_; rintro e w7 ⟨rfl, hb⟩; have B7 := Lib.hid (below_then E6.out hb); clear hb)
    | (go_at_call 21; refine (count_nil _).mono ?_; rintro e w' ⟨rfl, rfl⟩)
    | (go_at_call 13; refine (HCP.out _ B7.out).mono ?_; rintro e w8 ⟨l', A8, c8, -, rfl, -, -, hb⟩; have B8 := Lib.hid (below_then B7.out hb); clear hb)
    | (go_at_call 12; refine (write_nil _ _ _ _ _ _).mono ?_; rintro e w' ⟨rfl, rfl⟩))
  go_ret
  exact ⟨rfl, B8.out⟩
end Go.Proofs.YtnoccpafjaoopaaGreat
namespace Go.Proofs.YtnoccpafjaoopaaGreat
open Go.RowKit
open Go.Maps
/-- Entries that come in, of a told bulk. -/
structure LIn (w : World) (A : Option Addr) (l : List En) (n c : Nat) : Prop where
  len : l.length = n
  lies : Lies w A (evals l)
  ins : EIns w l
  fit : ∀ q ∈ l, EFit q
  cap : n ≤ c
  top : (c : Int) ≤ 9223372036854775807
  bulk : 5 * n + sizeE (ers l) ≤ 1048576
theorem LIn.kept {w w' : World} {A : Option Addr} {l : List En} {n c : Nat} (h : LIn w A l n c) (hb : Below w.heap.size w w') : LIn w' A l n c := ⟨h.len, h.lies.kept hb, h.ins.kept hb, h.fit, h.cap, h.top, h.bulk⟩
theorem size_mem {l : List Er} {x : Er} (h : x ∈ l) : x.1.length + x.2.2.2.length ≤ sizeE l := by
  induction l with
  | nil => cases h
  | cons a l ih =>
    rw [sizeE_cons]
    rcases List.mem_cons.1 h with rfl | h
    · omega
    · have := ih h
      omega
theorem LIn.small {w : World} {A : Option Addr} {l : List En} {n c : Nat} (h : LIn w A l n c) : n ≤ 209715 ∧ ∀ q ∈ l, q.k.l.length ≤ 1048576 ∧ q.v.l.length ≤ 1048576 := by
  have := h.bulk
  refine ⟨by omega, fun q hq => ?_⟩
  have := size_mem (l := ers l) (x := q.rd) (List.mem_map_of_mem hq)
  have e1 : q.rd.1 = q.k.l := rfl
  have e2 : q.rd.2.2.2 = q.v.l := rfl
  rw [e1, e2] at this
  omega
theorem fit_ers {l l' : List En} (he : ers l' = ers l) (h : ∀ q ∈ l, EFit q) : ∀ q ∈ l', EFit q := fun q hq => by
  have : q.rd ∈ ers l := he ▸ List.mem_map_of_mem hq
  obtain ⟨q', hq', e⟩ := List.mem_map.1 this
  exact fit_of (h q' hq') e.symm
theorem file_few {l : List Er} {k : Nat} (h : 5 * l.length + sizeE l ≤ 1048576) (ho : OrdL l) (hne : l ≠ []) (hB : ByL l) (h1 : 1 ≤ k) (h2 : k ≤ 1024) : (fileE l k).length ≤ 268435456 := by
  have := fileE_size ho hne hB h1 h2
  omega
theorem LIn.byl {w : World} {A : Option Addr} {l : List En} {n c : Nat} (h : LIn w A l n c) : ByL (ers l) := h.ins.byt
/-- A copy of them. -/
theorem LIn.copy {w w1 w' : World} {A : Option Addr} {l : List En} {n c : Nat} (h : LIn w A l n c) {e : Ending} (hc : ECopied w1 l e w') : ∃ (l' : List En) (A' : Option Addr) (c' : Nat), ers l' = ers l ∧ e = .returned (.slice A' n c') ∧ LIn w' A' l' n c' ∧ EMades w' w1.heap.size l' ∧ Erow w' w1.heap.size A' c' l' ∧ Below w1.heap.size w1 w' := by
  obtain ⟨l', A', c', h1, h2, h3, h4, h5⟩ := hc
  have hl : l'.length = n := by rw [← ers_len, h1, ers_len, h.len]
  have hcap := own_cap h4
  exact ⟨l', A', c', h1, by rw [h2, hl], ⟨hl, h4.lies, h3.ins (by rw [h1]; exact h.byl), fit_ers h1 h.fit, by rw [← hl]; exact hcap.1, hcap.2, by rw [h1]; exact h.bulk⟩, h3, h4, h5⟩
theorem copy_in {w : World} {A : Option Addr} {l : List En} {n c : Nat} (h : LIn w A l n c) : Calls Tryz.prog 13 #[.slice A n c] w (ECopied w l) :=
  refCopy_any A l n c w h.len h.lies h.ins (by have := h.small.1; omega) (fun q hq => by have := h.small.2 q hq; omega)
theorem write_in {B g : Nat} {p : Pk} {m : Vm} {s : ByteArray} {A : Option Addr} {l : List En} {n c : Nat} {b : Int} {w : World} (h : LIn w A l n c) (hp : PSt w B g p) (hv : p.vm = m) (hs : s.size ≤ 140737488355328) (hf : Fits m 268435456) (hsum : sumM m.fs ≤ 1099511627776) :
    Calls Tryz.prog 12 #[.pointer (some ⟨g, 0, none⟩), .string s, .slice A n c, .int .i64 b] w fun e w' => e = .returned (.int .i64 (writeV m s (ers l) b).2) ∧ Rest w B g p (writeV m s (ers l) b).1 w' :=
  write_any B g p m s A l n c b w hp hv hs h.len h.lies h.ins h.fit (by have := h.small.1; omega) h.cap h.top 268435456 (fun hne ho k h1 h2 => file_few (by have := h.bulk; rw [ers_len, h.len]; exact this) ho hne h.byl h1 h2) hf (by omega) (by decide)
theorem opened_whole {w w' : World} {F : List Int} {tb : Tb} {L : List Er} {e : Ending} (ht : tableP F = some tb) (hW : Whole L tb) (h : (((F, (0 : Int)).2 ≠ 0 ∧ e = .returned (.tuple #[.pointer none, .int .i64 ((F, (0 : Int)).2)])) ∨ ((F, (0 : Int)).2 = 0 ∧ tableP (F, (0 : Int)).1 = none ∧ e = .returned (.tuple #[.pointer none, .int .i64 11])) ∨ ((F, (0 : Int)).2 = 0 ∧ ∃ t : Tm, tableP (F, (0 : Int)).1 = some t.tb ∧ e = .returned (.tuple #[.pointer (some ⟨t.b, 0, none⟩), .int .i64 0]) ∧ TabAt w' t ∧ w.heap.size ≤ t.b ∧ w.heap.size ≤ t.mb ∧ t.cnt = (t.tb.rows.map Rw.count).sum))) :
    ∃ t : Tm, t.tb = tb ∧ e = .returned (.tuple #[.pointer (some ⟨t.b, 0, none⟩), .int .i64 0]) ∧ TabAt w' t ∧ t.cnt = (L.length : Nat) ∧ w.heap.size ≤ t.mb := by
  rcases h with ⟨h, -⟩ | ⟨-, h, -⟩ | ⟨-, t, h1, h2, h3, -, h5, h4⟩
  · exact absurd rfl h
  · simp only at h
    rw [ht] at h
    cases h
  · simp only at h1
    rw [ht] at h1
    injection h1 with h1
    exact ⟨t, h1.symm, h2, h3, by rw [h4, ← h1, hW.sum], h5⟩
end Go.Proofs.YtnoccpafjaoopaaGreat
namespace Go.Proofs.YtnoccpafjaoopaaGreat
open Go.ChangeShapes Go.WideShapes Go.ChangeAt Go.RowKit
section
variable {H : Type} {enc : TypeId × Value → H} {W : World} {fuel : Nat} {cs : List Value} {x : DataW H × List MemPlace}
theorem open_entries_up (h : DataW.trod enc Tryz.prog W 0 (fun _ => true) true fuel 22 cs = some x) (hb : Rows.uptoBulk x.1 ≤ 1048576) (A : Option Addr) (n c : Nat) (hcs : cs = [.slice A n c]) : ∃ l, LIn W A l n c := by
  obtain ⟨l, h1, h0, h2, ds, h3, h4, h5, -⟩ := open_rows (α := En) En.cells 4 (fun _ => rfl) (by omega) cells48 Tryz.underlying22 h A n c hcs (fun q d => (In W q.k.a q.k.l q.k.l.length q.k.c ∧ In W q.v.a q.v.l q.v.l.length q.v.c) ∧ EFit q ∧ q.k.l.length + q.v.l.length + 5 ≤ Rows.uptoBulk d) (fun m cs' y hy _ _ => by
    obtain ⟨q, e1, e2, e3, e4, _⟩ := open_entry hy
    exact ⟨q, e1, e2, e3, e4⟩)
  have hall : ∀ q ∈ l, (In W q.k.a q.k.l q.k.l.length q.k.c ∧ In W q.v.a q.v.l q.v.l.length q.v.c) ∧ EFit q := fun q hq => by
    obtain ⟨i, hi, e⟩ := List.mem_iff_getElem.1 hq
    have := h4 i q (ds[i]'(by omega)) (by rw [List.getElem?_eq_getElem hi, e]) (List.getElem?_eq_getElem (by omega))
    exact ⟨this.1, this.2.1⟩
  have hs := bulk_add (fun q : En => q.k.l.length + q.v.l.length + 4) l ds h3 (fun i q d a1 a2 => by have := (h4 i q d a1 a2).2.2; omega)
  have e : (l.map (fun q : En => q.k.l.length + q.v.l.length + 4)).sum = sizeE (ers l) + 4 * l.length := by
    clear h1 h2 h3 h4 hs hall
    induction l with
    | nil => rfl
    | cons q r ih =>
      rw [List.map_cons, List.sum_cons, ih, show ers (q :: r) = q.rd :: ers r from rfl, sizeE_cons, List.length_cons]
      show _ = q.k.l.length + q.v.l.length + _ + _
      omega
  rw [e] at hs
  exact ⟨l, h1, h2, fun q hq => (hall q hq).1, fun q hq => (hall q hq).2, h0.1, h0.2, by omega⟩
theorem open_txt_upto (h : DataW.trod enc Tryz.prog W 0 (fun _ => true) true fuel 9 cs = some x) (hb : Rows.uptoBulk x.1 ≤ 1048576) (s : ByteArray) (hcs : cs = [.string s]) : s.size ≤ 1048576 := by
  obtain ⟨r, e1, e2, -⟩ := open_text h
  rw [hcs] at e1
  injection e1 with e1
  injection e1 with e1
  subst e1
  omega
end
end Go.Proofs.YtnoccpafjaoopaaGreat
