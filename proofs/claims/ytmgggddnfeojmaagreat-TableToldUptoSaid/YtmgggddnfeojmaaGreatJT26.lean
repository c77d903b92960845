/-
  Walks: the law's first look. Walks: all that a nil table tells. Bytes, texts, numbers and entries that come in, as the walks want them. Walks: a table made of entries, by the law. Entries that come in, of a told bulk. TableWrites: walks of the law itself. Walks: Get, with blocks of who calls apart from the table.
-/
import Derived.Test.YtmgggddnfeojmaaGreatRows
import Derived.Deep.Slices
import Derived.OpenShut
import Derived.ChangeOld
import Derived.SizedLaws
import Derived.Test.YtmgggddnfeojmaaGreatJT21
import Derived.Test.YtmgggddnfeojmaaGreatJT25
set_option linter.unusedSimpArgs false
set_option linter.unusedVariables false
namespace Go.Proofs.YtmgggddnfeojmaaGreat
open Go.RowKit
open Go.Maps
def sT : ByteArray := ⟨#[116]⟩
theorem okT : okName sT = true := by decide +kernel
theorem fits_calm (n : Nat) (h : n ≤ 140737488355328) : Fits calmV n := ⟨by decide, fun x hx => (List.not_mem_nil hx).elim, fun x hx => (List.not_mem_nil hx).elim⟩
theorem fits_lone {s : ByteArray} {F : List Int} {y : Int} {n : Nat} (hs : s.size ≤ 140737488355328) (h : F.length + n ≤ 140737488355328) : Fits (loneV s F y) n := ⟨by show 1 * 48 ≤ _; omega, fun x hx => by rw [show (loneV s F y).fs = [(s, F, y)] from rfl, List.mem_singleton] at hx; subst hx; exact h, fun x hx => by rw [show (loneV s F y).fs = [(s, F, y)] from rfl, List.mem_singleton] at hx; subst hx; exact hs⟩
/-- A disk whose blocks are none of some. -/
def Clear (p : Pk) (g lo hi : Nat) : Prop := ∀ k, p.own g k → ¬ (lo ≤ k ∧ k < hi)
theorem Clear.rest {w w' : World} {g lo hi : Nat} {p p' : Pk} (h : Clear p g lo hi) (hd : Does (p.own g) (p'.own g) w w') (hw : hi ≤ w.heap.size) : Clear p' g lo hi ∧ ∀ k, lo ≤ k → k < hi → w'.heap[k]? = w.heap[k]? :=
  ⟨fun k hk q => (hd.grows k hk).elim (fun h' => h k h' q) (fun h' => by omega), fun k h1 h2 => hd.block k (by omega) (fun hk => h k hk ⟨h1, h2⟩)⟩
theorem write_three {B g : Nat} {p : Pk} {m m' : Vm} {r : Int} {z : Nat} {w : World} (h : PSt w B g p) (hv : p.vm = m) (ha : At3 z w) (hf : Fits m 1000) (hs : sumM m.fs + 1000 ≤ 4611686018427387904) (hw : writeV m sT L3 2 = (m', r)) :
    Calls Tryz.prog 12 #[.pointer (some ⟨g, 0, none⟩), .string sT, .slice (some ⟨z + 4, 0, none⟩) 3 3, .int .i64 2] w fun e w' => e = .returned (.int .i64 r) ∧ Rest w B g p m' w' := by
  have := write_any B g p m sT (some ⟨z + 4, 0, none⟩) (l3 z) 3 3 2 w h hv (by decide) rfl ha.lies.1 ha.lies.2 (fun q hq => by
    simp only [l3, List.mem_cons, List.mem_nil_iff, or_false] at hq
    rcases hq with rfl | rfl | rfl <;> exact ⟨by simp only; omega, by simp only; omega⟩) (by decide) (by decide) (by decide) 1000 (fun _ _ k h1 h2 => L3_file h1 h2) hf hs (by decide)
  rwa [l3_rd, hw] at this
theorem got_some {x : Er} {y : En} {b : Bool} {er : Int} (h : AnsG (some x, false) y b er) : y.rd = x ∧ b = true ∧ er = 0 := by
  rcases h with ⟨h1, h2, h3⟩ | ⟨h1, -⟩
  · injection h1 with h1
    injection h1 with h1
    exact ⟨h1.symm, h2, h3⟩
  · cases h1
set_option maxRecDepth 100000 in
set_option maxHeartbeats 4000000 in
theorem wakes_any (w : World) : Calls Tryz.prog 9 #[] w fun e w' => e = .returned (.bool true) ∧ Below w.heap.size w w' := by
  obtain ⟨tb, ht, hW⟩ := whole_file (l := L3) (size := 2) L3_ord (by decide) L3_byl (by decide) (by decide) (by decide)
  have hF9 := L3_file (k := 2) (by decide) (by decide)
  have W1 := write_calm (s := sT) (L := L3) (k := 2) okT (by decide) (by decide) (by decide) L3_ord
  have W2 := write_twice (s := sT) (L := L3) (k := 2) (F := fileE L3 2) (y := (fileE L3 2).length) okT (by decide) (by decide) (by decide) L3_ord
  have R1 := read_lone (s := sT) (fileE L3 2) (fileE L3 2).length okT
  obtain ⟨F, hF⟩ : ∃ F, fileE L3 2 = F := ⟨_, rfl⟩
  rw [hF] at ht hF9 W1 W2 R1
  have HT := Lib.hid ht
  have HW := Lib.hid hW
  have HF9 := Lib.hid hF9
  have HW1 := Lib.hid W1
  have HW2 := Lib.hid W2
  have HR1 := Lib.hid R1
  have e116 : Hid ((⟨#[116]⟩ : ByteArray) = sT) := Lib.hid rfl
  clear ht hW hF9 W1 W2 R1 hF
  go_enter Tryz.func9, Tryz.ntmps9
  go_upto_region 2 with (first
    | (go_at_call 11; refine (calm_any _).mono ?_; rintro e w1 ⟨rfl, hb⟩; have B1 := Lib.hid hb; clear hb)
    | (go_at_call 10; refine (new_calm w1).mono ?_; rintro e w2 ⟨g, p2, rfl, hps, hv, hb⟩; have E2 : Hid (PSt w2 w.heap.size g p2 ∧ p2.vm = calmV ∧ Below w.heap.size w w2) := Lib.hid ⟨hps.mono B1.out.size, hv, B1.out.trans (hb.mono B1.out.size)⟩; clear hps hv hb))
  have k1 := one_convN 98 w2 w2.heap.size rfl
  have k2 := one_convN 120 (w2.alloc (.cells #[.int .u8 98] 5 (1, 2))) (w2.heap.size + 1) (by simp)
  have k3 := one_convN 98 ((w2.alloc (.cells #[.int .u8 98] 5 (1, 2))).alloc (.cells #[.int .u8 120] 5 (1, 2))) (w2.heap.size + 1 + 1) (by simp)
  have k4 := one_convN 99 (((w2.alloc (.cells #[.int .u8 98] 5 (1, 2))).alloc (.cells #[.int .u8 120] 5 (1, 2))).alloc (.cells #[.int .u8 98] 5 (1, 2))) (w2.heap.size + 1 + 1 + 1) (by simp)
  go_upto_region 3 with fail
  clear k1 k2 k3 k4
  obtain ⟨z, hz⟩ : ∃ z, w2.heap.size = z := ⟨_, rfl⟩
  obtain ⟨hq, hs, hb⟩ := allocs_get [.cells #[.int .u8 98] 5 (1, 2), .cells #[.int .u8 120] 5 (1, 2), .cells #[.int .u8 98] 5 (1, 2), .cells #[.int .u8 99] 5 (1, 2), .cells #[.slice (some ⟨w2.heap.size, 0, none⟩) 1 1, .int .i64 5, .bool false, .slice (some ⟨w2.heap.size + 1, 0, none⟩) 1 1, .slice (some ⟨w2.heap.size + 1 + 1, 0, none⟩) 1 1, .int .i64 3, .bool false, .slice none 0 0, .slice (some ⟨w2.heap.size + 1 + 1 + 1, 0, none⟩) 1 1, .int .i64 4, .bool true, .slice none 0 0] 48] w2
  have q0 := hq 0 _ rfl
  have q1 := hq 1 _ rfl
  have q2 := hq 2 _ rfl
  have q3 := hq 3 _ rfl
  have q4 := hq 4 _ rfl
  simp only [List.foldl_cons, List.foldl_nil, List.length_cons, List.length_nil, Nat.reduceAdd, Nat.add_zero] at hs hb q0 q1 q2 q3 q4
  clear hq
  obtain ⟨w3, hw3⟩ : ∃ w3, (((((w2.alloc (.cells #[.int .u8 98] 5 (1, 2))).alloc (.cells #[.int .u8 120] 5 (1, 2))).alloc (.cells #[.int .u8 98] 5 (1, 2))).alloc (.cells #[.int .u8 99] 5 (1, 2))).alloc (.cells #[.slice (some ⟨w2.heap.size, 0, none⟩) 1 1, .int .i64 5, .bool false, .slice (some ⟨w2.heap.size + 1, 0, none⟩) 1 1, .slice (some ⟨w2.heap.size + 1 + 1, 0, none⟩) 1 1, .int .i64 3, .bool false, .slice none 0 0, .slice (some ⟨w2.heap.size + 1 + 1 + 1, 0, none⟩) 1 1, .int .i64 4, .bool true, .slice none 0 0] 48)) = w3 := ⟨_, rfl⟩
  rw [hw3] at q0 q1 q2 q3 q4 hs hb ⊢
  clear hw3
  have A3 : Hid (At3 z w3) := Lib.hid (by rw [hz] at q0 q1 q2 q3 q4; exact ⟨q0, q1, q2, q3, q4⟩)
  have E3 : Hid (PSt w3 w.heap.size g p2 ∧ p2.vm = calmV ∧ Below w.heap.size w w3 ∧ Clear p2 g z (z + 5) ∧ w3.heap.size = z + 5) := Lib.hid ⟨E2.out.1.kept hb, E2.out.2.1, E2.out.2.2.trans (hb.mono E2.out.2.2.size), fun k hk q => by have := (E2.out.1.owned k hk).2; omega, by rw [hs, hz]⟩
  rw [hz]
  rw [e116.out]
  clear q0 q1 q2 q3 q4 hs hb hz E2
  go_upto_region 5 with (first
    | (go_at_call 12; refine (write_three E3.out.1 E3.out.2.1 A3.out (fits_calm _ (by decide)) (by decide) HW1.out).mono ?_; rintro e w4 ⟨rfl, p4, s4, v4, d4⟩; obtain ⟨c4, k4⟩ := E3.out.2.2.2.1.rest d4 (Nat.le_of_eq E3.out.2.2.2.2.symm); have A4 := Lib.hid (A3.out.same k4); have E4 : Hid (PSt w4 w.heap.size g p4 ∧ p4.vm = loneV sT F F.length ∧ Below w.heap.size w w4 ∧ Clear p4 g z (z + 5) ∧ z + 5 ≤ w4.heap.size) := Lib.hid ⟨s4, v4, E3.out.2.2.1.trans (d4.below E3.out.2.2.1.size (fun k hk => (E3.out.1.owned k hk).1)), c4, by have := d4.size; have := E3.out.2.2.2.2; omega⟩; clear s4 v4 d4 c4 k4 A3 E3)
    | (go_at_call 12; refine (write_three E4.out.1 E4.out.2.1 A4.out (fits_lone (by decide) (by have := HF9.out; omega)) (by have := HF9.out; simp [loneV, sumM]; omega) HW2.out).mono ?_; rintro e w5 ⟨rfl, p5, s5, v5, d5⟩; have E5 : Hid (PSt w5 w.heap.size g p5 ∧ p5.vm = loneV sT F F.length ∧ Below w.heap.size w w5) := Lib.hid ⟨s5, v5, E4.out.2.2.1.trans (d5.below E4.out.2.2.1.size (fun k hk => (E4.out.1.owned k hk).1))⟩; clear s5 v5 d5 A4 E4)
    | (go_at_call 12; refine (write_any w.heap.size g p5 _ ⟨#[117]⟩ none [] 0 0 2 w5 E5.out.1 E5.out.2.1 (by decide) rfl (.inl rfl) (EIns.nil _) (fun q hq => (List.not_mem_nil hq).elim) (by decide) (by decide) (by decide) 0 (fun h => absurd rfl h) (fits_lone (by decide) (by have := HF9.out; omega)) (by have := HF9.out; simp [loneV, sumM]; omega) (by decide)).mono ?_; rw [show ers ([] : List En) = [] from rfl, write_none _ _ _ _ (by decide) (.inl rfl)]; rintro e w6 ⟨rfl, p6, s6, v6, d6⟩; have E6 : Hid (PSt w6 w.heap.size g p6 ∧ p6.vm = loneV sT F F.length ∧ Below w.heap.size w w6) := Lib.hid ⟨s6, v6, E5.out.2.2.trans (d6.below E5.out.2.2.size (fun k hk => (E5.out.1.owned k hk).1))⟩; clear s6 v6 d6 E5))
  have HOP := Lib.hid (open_any w.heap.size g p6 _ sT w6 E6.out.1 E6.out.2.1 (by decide) (fits_lone (by decide) (by have := HF9.out; omega)) (fun x hx => by rw [show (loneV sT F F.length).fs = [(sT, F, (F.length : Int))] from rfl, List.mem_singleton] at hx; subst hx; have := HF9.out; show F.length ≤ _; omega))
  rw [HR1.out] at HOP
  go_upto_region 8 with (go_at_call 17; refine HOP.out.mono ?_; rintro e w7 ⟨b7, h7⟩; obtain ⟨t, hts, rfl, hta, hcnt, hmb⟩ : ∃ t : Tm, t.tb = tb ∧ e = .returned (.tuple #[.pointer (some ⟨t.b, 0, none⟩), .int .i64 0]) ∧ TabAt w7 t ∧ t.cnt = 3 ∧ w6.heap.size ≤ t.mb := (by
    rcases h7 with ⟨h, -⟩ | ⟨-, h, -⟩ | ⟨-, t, h1, h2, h3, -, h5, h4⟩
    · exact absurd rfl h
    · rw [HT.out] at h; cases h
    · rw [HT.out] at h1
      injection h1 with h1
      exact ⟨t, h1.symm, h2, h3, by rw [h4, ← h1, HW.out.sum]; rfl, h5⟩); have E7 : Hid (t.tb = tb ∧ TabAt w7 t ∧ t.cnt = 3 ∧ Below w.heap.size w w7) := Lib.hid ⟨hts, hta, hcnt, E6.out.2.2.trans (b7.mono E6.out.2.2.size)⟩; have M7 : Hid (w.heap.size ≤ t.mb) := Lib.hid (Nat.le_trans E6.out.2.2.size hmb); clear hts hta hcnt b7 h7 hmb)
  have k5 := one_convN 98 w7 w7.heap.size rfl
  have HG : Hid (Calls Tryz.prog 23 #[.pointer (some ⟨t.b, 0, none⟩), .slice (some ⟨w7.heap.size, 0, none⟩) 1 1, .int .i64 4] (w7.alloc (.cells #[.int .u8 98] 5 (1, 2))) (GetE t [98] 4 (w7.alloc (.cells #[.int .u8 98] 5 (1, 2))))) := Lib.hid (get_any t ⟨some ⟨w7.heap.size, 0, none⟩, 1, [98]⟩ 4 _ (E7.out.2.1.kept (below_new _ _)) (one_at (heap_alloc_new w7 _) (by decide)) (by
    have h := HW.out.few
    rw [← E7.out.1] at h
    simp only [Tm.tb, List.length_map] at h
    have : L3.length = 3 := rfl
    omega))
  have HB8 := Lib.hid (below_new w7 (.cells #[.int .u8 98] 5 (1, 2)))
  go_upto_region 9 with (go_at_call 23; refine HG.out.mono ?_; rintro e w8 ⟨y, b, er, ha, rfl, -, -, ht8, hta8⟩; rw [E7.out.1, HW.out.get, L3_get] at ha; obtain ⟨hy, rfl, rfl⟩ := got_some ha; have HY : Hid (y.s = 3) := Lib.hid (congrArg (fun r : Er => r.2.1) hy); have T8 := Lib.hid ht8; have A8 := Lib.hid hta8; rw [En.val_eq]; clear ha ht8 hta8 hy)
  have HMB : Hid (Below w.heap.size w w8) := Lib.hid ((E7.out.2.2.2.trans (HB8.out.mono E7.out.2.2.2.size)).trans (T8.out.below M7.out (Nat.le_trans E7.out.2.2.2.size HB8.out.size)))
  obtain ⟨yn, hyn⟩ : ∃ q, y.k.l.length = q := ⟨_, rfl⟩
  obtain ⟨vn, hvn⟩ : ∃ q, y.v.l.length = q := ⟨_, rfl⟩
  obtain ⟨w9, hw9⟩ : ∃ w9, w8.alloc (.cells #[.slice y.k.a yn y.k.c, .int .i64 y.s, .bool y.d, .slice y.v.a vn y.v.c] 48) = w9 := ⟨_, rfl⟩
  have HC : Hid (Calls Tryz.prog 21 #[.pointer (some ⟨t.b, 0, none⟩)] w9 fun e w' => e = .returned (.int .i64 3) ∧ w' = w9) := Lib.hid (by
    have := count_any t w9 (A8.out.kept (hw9 ▸ below_new w8 _)).c
    rwa [E7.out.2.2.1] at this)
  have B9 : Hid (Below w.heap.size w w9) := Lib.hid (HMB.out.trans ((hw9 ▸ below_new w8 _ : Below w8.heap.size w8 w9).mono HMB.out.size))
  have x1 : w9.cell? ⟨w8.heap.size, 1, none⟩ = some (.int .i64 y.s) := by
    have := heap_alloc_new w8 (.cells #[.slice y.k.a yn y.k.c, .int .i64 y.s, .bool y.d, .slice y.v.a vn y.v.c] 48)
    rw [hw9] at this
    simp [World.cell?, this]
  have e3 : (y.s == 3) = true := by rw [HY.out]; rfl
  rw [hyn, hvn, hw9]
  clear hw9 hyn hvn k5
  go_wp2_with (go_at_call 21; refine HC.out.mono ?_; rintro e w' ⟨rfl, rfl⟩)
  go_ret
  exact ⟨rfl, B9.out⟩
end Go.Proofs.YtmgggddnfeojmaaGreat
namespace Go.Proofs.YtmgggddnfeojmaaGreat
open Go.RowKit Go.Shelf
attribute [local go_sem] Oper.semAt_some
/-- What stands while a nil table is asked; where it was left. -/
structure KN (H L : Nat) (w3 W : World) : Prop where
  kp : Kp (fun g => g < L ∧ ¬ (H ≤ g ∧ g < H + 3)) w3 W
  r0 : W.heap[H]? = some (.cells #[.slice none 0 0] 22 (0, 0))
  r1 : W.heap[H + 1]? = some (.cells #[.int .i64 0] 30 (0, 0))
  r2 : W.heap[H + 2]? = some (.cells #[.slice none 0 0] 22 (0, 0))
structure XN (H L : Nat) (w3 W : World) : Prop where
  kp : Kp (fun g => g < L ∧ ¬ (H ≤ g ∧ g < H + 3)) w3 W
  r0 : W.heap[H]? = some (.cells #[.slice none 0 0] 22 (0, 0))
  r1 : W.heap[H + 1]? = some (.cells #[.int .i64 1] 30 (0, 0))
section
variable {H L : Nat} {w3 W W' : World}
theorem KN.grow (h : KN H L w3 W) (hH : H + 3 ≤ L) (hz : L ≤ W.heap.size) {row : Option Nat} (hg : W.grownBy W' row) (hr : ∀ r, row = some r → L ≤ r) : KN H L w3 W' := by
  have hb : ∀ g, g < L → W'.heap[g]? = W.heap[g]? := fun g hl => hg.block g (by omega) (fun e => by have := hr g e.symm; omega)
  exact ⟨kp_step h.kp hg.os hg.tape hg.output hg.size (fun g q => hb g q.1), (hb _ (by omega)).trans h.r0, (hb _ (by omega)).trans h.r1, (hb _ (by omega)).trans h.r2⟩
theorem XN.grow (h : XN H L w3 W) (hH : H + 3 ≤ L) (hz : L ≤ W.heap.size) {row : Option Nat} (hg : W.grownBy W' row) (hr : ∀ r, row = some r → L ≤ r) : XN H L w3 W' := by
  have hb : ∀ g, g < L → W'.heap[g]? = W.heap[g]? := fun g hl => hg.block g (by omega) (fun e => by have := hr g e.symm; omega)
  exact ⟨kp_step h.kp hg.os hg.tape hg.output hg.size (fun g q => hb g q.1), (hb _ (by omega)).trans h.r0, (hb _ (by omega)).trans h.r1⟩
end
end Go.Proofs.YtmgggddnfeojmaaGreat
namespace Go.Proofs.YtmgggddnfeojmaaGreat
open Go.ChangeShapes Go.WideShapes Go.ChangeAt Go.RowKit
theorem in_row (w : World) (x : Addr) (l c : Nat) (zs : List Int) (hl : l ≤ c) (hm : c ≤ maxLen) (hz : zs.length = c) (hcell : ∀ i, i < zs.length → w.cell? (x.add i) = some (.int .u8 (zs.getD i 0))) (hwz : ∀ n ∈ zs, (Lit.int .u8 n).wf = true) : In w (some x) (zs.take l) l c := by
  refine ⟨by simp; omega, hl, by unfold maxLen at hm; omega, .inr ⟨x, rfl, fun j y hy => ?_⟩, fun y hy => ?_⟩
  · rw [List.getElem?_take] at hy
    split at hy
    · have hj := (List.getElem?_eq_some_iff.1 hy).1
      rw [hcell j hj, List.getD_eq_getElem?_getD, hy]
      rfl
    · cases hy
  · have := hwz y (List.mem_of_mem_take hy)
    simp [Lit.wf, IntKind.min, IntKind.max, IntKind.signed, IntKind.bits] at this
    omega
theorem bulk_one {H : Type} (d : DataW H) : 1 ≤ Rows.uptoBulk d := by
  cases d with
  | lit l => cases l <;> simp [Rows.uptoBulk]
  | nil => simp [Rows.uptoBulk]
  | ptr d => simp [Rows.uptoBulk]
  | slice elems spare => simp [Rows.uptoBulk]
  | agg parts => simp [Rows.uptoBulk]
  | iface t d => simp [Rows.uptoBulk]
  | map entries => simp [Rows.uptoBulk]
  | held h => simp [Rows.uptoBulk]
theorem bulk_in {H : Type} {d : DataW H} {l : List (DataW H)} (h : d ∈ l) : Rows.uptoBulk d ≤ Rows.uptoBulkAll l := by
  induction l with
  | nil => cases h
  | cons x r ih =>
    simp only [Rows.uptoBulkAll]
    rcases List.mem_cons.1 h with e | e
    · subst e
      omega
    · have := ih e
      omega
theorem bulk_length {H : Type} (l : List (DataW H)) : l.length ≤ Rows.uptoBulkAll l := by
  induction l with
  | nil => simp [Rows.uptoBulkAll]
  | cons x r ih =>
    have := bulk_one x
    simp only [Rows.uptoBulkAll, List.length_cons]
    omega
theorem list_of {α : Type} {P : Nat → α → Prop} : ∀ n : Nat, (∀ i, i < n → ∃ q, P i q) → ∃ l : List α, l.length = n ∧ ∀ i q, l[i]? = some q → P i q
  | 0, _ => ⟨[], rfl, fun i q h => by simp at h⟩
  | n + 1, h => by
    obtain ⟨l, hl, hp⟩ := list_of n (fun i hi => h i (by omega))
    obtain ⟨q, hq⟩ := h n (by omega)
    refine ⟨l ++ [q], by simp [hl], fun i p hi => ?_⟩
    rcases Nat.lt_or_ge i n with k | k
    · exact hp i p (by rwa [List.getElem?_append_left (by omega)] at hi)
    · have hlt := (List.getElem?_eq_some_iff.1 hi).1
      simp only [List.length_append, List.length_singleton] at hlt
      have e : i = n := by omega
      subst e
      rw [List.getElem?_append_right (by omega), hl] at hi
      simp at hi
      subst hi
      exact hq
theorem weights_all {H : Type} {P : Program} {e : TypeId} {l : List (DataW H)} {d : DataW H} (h : d ∈ l) : ∀ n ∈ d.weights P e, n ∈ DataW.weightsAll P e l := by
  induction l with
  | nil => cases h
  | cons x r ih =>
    intro n hn
    simp only [DataW.weightsAll, List.mem_append]
    rcases List.mem_cons.1 h with k | k
    · subst k
      exact .inl hn
    · exact .inr (ih k n hn)
theorem cells48 : Tryz.prog.cellsOf 48 = 4 := by kernel_rfl
theorem cells42 : Tryz.prog.cellsOf 42 = 1 := by kernel_rfl
theorem cells3 : Tryz.prog.cellsOf 3 = 1 := by kernel_rfl
theorem cells4 : Tryz.prog.cellsOf 4 = 1 := by kernel_rfl
theorem bytes8 : Tryz.prog.bytesOf 5 = 1 := by kernel_rfl
section
variable {H : Type} {enc : TypeId × Value → H} {W : World} {fuel : Nat} {cs : List Value} {x : DataW H × List MemPlace}
/-- Bytes, read. -/
theorem open_byts (h : DataW.trod enc Tryz.prog W 0 (fun _ => true) true fuel 42 cs = some x) :
    ∃ s : Sl, cs = [s.val] ∧ In W s.a s.l s.l.length s.c ∧ s.l.length + 1 ≤ Rows.uptoBulk x.1 ∧ ((∀ n ∈ x.1.weights Tryz.prog 42, n ≤ reachBytes) → s.l.length ≤ 140737488351232) := by
  rcases open_ints Tryz.underlying42 Tryz.underlying5 (by kernel_rfl) h with ⟨hc0, hx⟩ | ⟨y, l, d, zs, hc0, _, hl', hm', hz, hxx, hcell, hwz⟩
  · exact ⟨⟨none, 0, []⟩, hc0, in_nil W, bulk_one _, fun _ => by simp⟩
  · simp only [if_true] at hz
    have hin := in_row W y l d zs hl' hm' hz hcell hwz
    refine ⟨⟨some y, d, zs.take l⟩, ?_, hin.of_n, ?_, fun hw => ?_⟩
    · rw [hc0]
      show _ = [Value.slice (some y) (zs.take l).length d]
      rw [hin.len]
    · rw [hxx]
      have h2 := bulk_length (H := H) (lits .u8 (zs.take l))
      simp only [lits, List.length_map] at h2
      simp only [Rows.uptoBulk, lits]
      omega
    · have := hw (((lits (H := H) .u8 (zs.take l)).length + (lits (H := H) .u8 (zs.drop l)).length) * Tryz.prog.bytesOf 5) (by
        rw [hxx]
        simp only [DataW.weights, Tryz.underlying42]
        exact List.mem_cons_self)
      rw [bytes8] at this
      simp only [lits, List.length_map, reachBytes] at this
      show (zs.take l).length ≤ _
      omega
theorem open_num (h : DataW.trod enc Tryz.prog W 0 (fun _ => true) true fuel 3 cs = some x) : ∃ k : Int, cs = [.int .i64 k] ∧ -9223372036854775808 ≤ k ∧ k ≤ 9223372036854775807 := by
  obtain ⟨k, e3, e4, e5⟩ := DataW.trod_int Tryz.underlying3 h
  refine ⟨k, e3, ?_⟩
  simpa [Lit.wf, IntKind.min, IntKind.max, IntKind.signed, IntKind.bits] using e5
set_option maxRecDepth 100000 in
set_option maxRecDepth 100000 in
/-- An entry, read. -/
theorem open_entry (h : DataW.trod enc Tryz.prog W 0 (fun _ => true) true fuel 48 cs = some x) :
    ∃ q : En, cs = q.cells ∧ (In W q.k.a q.k.l q.k.l.length q.k.c ∧ In W q.v.a q.v.l q.v.l.length q.v.c) ∧ (-9223372036854775808 ≤ q.s ∧ q.s ≤ 9223372036854775807) ∧ q.k.l.length + q.v.l.length + 5 ≤ Rows.uptoBulk x.1 ∧ ((∀ n ∈ x.1.weights Tryz.prog 48, n ≤ reachBytes) → q.k.l.length ≤ 140737488351232 ∧ q.v.l.length ≤ 140737488351232) := by
  obtain ⟨xs, n, -, rfl, hlen, hxl, hf⟩ := DataW.trod_struct Tryz.underlying48 h
  rw [cells48] at hlen
  have h0 : DataW.trod enc Tryz.prog W 0 (fun _ => true) true n 42 ((cs.drop 0).take (Tryz.prog.cellsOf 42)) = xs[0]? := hf 0 _ rfl
  have h1 : DataW.trod enc Tryz.prog W 0 (fun _ => true) true n 3 ((cs.drop 1).take (Tryz.prog.cellsOf 3)) = xs[1]? := hf 1 _ rfl
  have h2 : DataW.trod enc Tryz.prog W 0 (fun _ => true) true n 4 ((cs.drop 2).take (Tryz.prog.cellsOf 4)) = xs[2]? := hf 2 _ rfl
  have h3 : DataW.trod enc Tryz.prog W 0 (fun _ => true) true n 42 ((cs.drop 3).take (Tryz.prog.cellsOf 42)) = xs[3]? := hf 3 _ rfl
  rw [cells42] at h0 h3
  rw [cells3] at h1
  rw [cells4] at h2
  match cs, hlen, xs, hxl with
  | [u, v, t, r], _, [y0, y1, y2, y3], _ =>
    obtain ⟨s, e1, e2, e3, e4⟩ := open_byts (h0.trans rfl)
    obtain ⟨k, g1, g2⟩ := open_num (h1.trans rfl)
    obtain ⟨b, b1, -⟩ := DataW.trod_bool Tryz.underlying4 (h2.trans rfl)
    obtain ⟨d, f1, f2, f3, f4⟩ := open_byts (h3.trans rfl)
    have a1 : u = s.val := by simpa using e1
    have a2 : v = .int .i64 k := by simpa using g1
    have a3 : t = .bool b := by simpa using b1
    have a4 : r = d.val := by simpa using f1
    subst a1
    subst a2
    subst a3
    subst a4
    refine ⟨⟨s, k, b, d⟩, rfl, ⟨e2, f2⟩, g2, ?_, fun hw => ⟨e4 (fun m hm => hw m ?_), f4 (fun m hm => hw m ?_)⟩⟩
    · have h4 := bulk_one y1.1
      have h5 := bulk_one y2.1
      simp only [Rows.uptoBulk, Rows.uptoBulkAll, List.map_cons, List.map_nil] at e3 f3 ⊢
      omega
    · simp only [DataW.weights, Tryz.underlying48]
      exact DataW.weights_mem_each (j := 0) (t := 42) rfl rfl m hm
    · simp only [DataW.weights, Tryz.underlying48]
      exact DataW.weights_mem_each (j := 3) (t := 42) rfl rfl m hm
theorem bulk_add {α : Type} (f : α → Nat) : ∀ (T : List α) (ds : List (DataW H)), T.length = ds.length → (∀ (i : Nat) (s : α) (d : DataW H), T[i]? = some s → ds[i]? = some d → f s + 1 ≤ Rows.uptoBulk d) → (T.map f).sum + T.length ≤ Rows.uptoBulkAll ds
  | [], [], _, _ => by simp [Rows.uptoBulkAll]
  | [], _ :: _, h, _ => by simp at h
  | _ :: _, [], h, _ => by simp at h
  | s :: T, d :: ds, h, hp => by
    have ih := bulk_add f T ds (by simpa using h) (fun i s d h1 h2 => hp (i + 1) s d (by simpa using h1) (by simpa using h2))
    have h0 := hp 0 s d rfl rfl
    simp only [List.map_cons, List.sum_cons, List.length_cons, Rows.uptoBulkAll] at ih ⊢
    omega
theorem flat_get {α : Type} (f : α → List Value) (k : Nat) (hk : ∀ a, (f a).length = k) (h0 : 0 < k) : ∀ (l : List α) (j : Nat) (u : Value), (l.flatMap f)[j]? = some u → ∃ a, l[j / k]? = some a ∧ (f a)[j % k]? = some u
  | [], j, u, h => by simp at h
  | a :: l, j, u, h => by
    rw [List.flatMap_cons] at h
    by_cases hj : j < k
    · rw [List.getElem?_append_left (by rw [hk]; omega)] at h
      exact ⟨a, by rw [Nat.div_eq_of_lt hj]; rfl, by rw [Nat.mod_eq_of_lt hj]; exact h⟩
    · rw [List.getElem?_append_right (by rw [hk]; omega), hk] at h
      obtain ⟨b, h1, h2⟩ := flat_get f k hk h0 l (j - k) u h
      refine ⟨b, ?_, ?_⟩
      · rw [Nat.div_eq_sub_div h0 (by omega)]
        simpa using h1
      · rw [Nat.mod_eq_sub_mod (by omega)]
        exact h2
/-- A slice of structs, read. -/
theorem open_rows {α : Type} {t e : TypeId} (f : α → List Value) (k : Nat) (hk : ∀ a, (f a).length = k) (h0 : 0 < k) (hc : Tryz.prog.cellsOf e = k) (ht : Tryz.prog.underlying t = some (.slice e)) (h : DataW.trod enc Tryz.prog W 0 (fun _ => true) true fuel t cs = some x) (A : Option Addr) (n c : Nat) (hcs : cs = [.slice A n c])
    (P : α → DataW H → Prop) (hP : ∀ m (cs' : List Value) (y : DataW H × List MemPlace), DataW.trod enc Tryz.prog W 0 (fun _ => true) true m e cs' = some y → (Rows.uptoBulk y.1 ≤ Rows.uptoBulk x.1) → (∀ z ∈ y.1.weights Tryz.prog e, z ∈ x.1.weights Tryz.prog t) → ∃ a, cs' = f a ∧ P a y.1) :
    ∃ l : List α, l.length = n ∧ (n ≤ c ∧ (c : Int) ≤ 9223372036854775807) ∧ Lies W A (l.flatMap f) ∧ ∃ ds : List (DataW H), l.length = ds.length ∧ (∀ (i : Nat) (a : α) (d : DataW H), l[i]? = some a → ds[i]? = some d → P a d) ∧ Rows.uptoBulkAll ds + 1 ≤ Rows.uptoBulk x.1 ∧ ((∀ z ∈ x.1.weights Tryz.prog t, z ≤ reachBytes) → n * Tryz.prog.bytesOf e ≤ reachBytes) := by
  rcases Go.Deep.open_slice ht h with ⟨h1, hx⟩ | ⟨a, len, cap, m, fu, D, Pl, h1, _, hl, hm, hmm, hx, hi⟩
  · rw [h1] at hcs
    injection hcs with e1
    injection e1 with e1 e2 e3
    subst e1 e2 e3
    exact ⟨[], rfl, ⟨Nat.le_refl _, by decide⟩, .inl rfl, [], rfl, fun i a d h => by simp at h, by rw [hx]; simp [Rows.uptoBulk, Rows.uptoBulkAll], fun _ => by simp⟩
  · rw [h1] at hcs
    injection hcs with e1
    injection e1 with e1 e2 e3
    subst e1 e2 e3
    simp only [if_true] at hmm
    subst hmm
    rw [hc] at hi
    have hx1 : x.1 = .slice ((List.range len).map D) ((List.range (m - len)).map fun j => D (len + j)) := by rw [hx]
    obtain ⟨l, hll, hq⟩ := list_of (P := fun i (q : α) => P q (D i) ∧ ∀ j u, (f q)[j]? = some u → W.cell? (a.add (i * k + j)) = some u) len (fun i hlt => by
      obtain ⟨cs', hc', ht'⟩ := hi i (by omega)
      obtain ⟨_, _, hat⟩ := World.cells?_some hc'
      have hmem : D i ∈ (List.range len).map D := List.mem_map_of_mem (List.mem_range.2 hlt)
      obtain ⟨q, e1, e2⟩ := hP _ _ _ ht' (by
        rw [hx1]
        have := bulk_in hmem
        simp only [Rows.uptoBulk]
        show Rows.uptoBulk (D i) ≤ _
        omega) (fun z hz => by
        rw [hx1]
        simp only [DataW.weights, ht]
        exact List.mem_cons_of_mem _ (List.mem_append.2 (.inl (weights_all hmem _ hz))))
      refine ⟨q, e2, fun j u hj => ?_⟩
      have hj3 : j < k := by
        have := (List.getElem?_eq_some_iff.1 hj).1
        rwa [hk] at this
      rw [← add_add, hat j hj3, e1]
      exact hj)
    refine ⟨l, hll, ⟨hl, by unfold maxLen at hm; omega⟩, .inr ⟨a, rfl, fun j u hj => ?_⟩, (List.range len).map D, by simp [hll], fun i q d h1 h2 => ?_, ?_, fun hw => ?_⟩
    · obtain ⟨q, e1, e2⟩ := flat_get f k hk h0 l j u hj
      have := (hq _ q e1).2 _ u e2
      rwa [show j / k * k + j % k = j by rw [Nat.mul_comm]; exact Nat.div_add_mod j k] at this
    · have hlt := (List.getElem?_eq_some_iff.1 h1).1
      rw [List.getElem?_map, List.getElem?_range (by omega)] at h2
      simp only [Option.map_some, Option.some.injEq] at h2
      rw [← h2]
      exact (hq i q h1).1
    · rw [hx1]
      simp only [Rows.uptoBulk]
      omega
    · have := hw ((((List.range len).map D).length + ((List.range (m - len)).map fun j => D (len + j)).length) * Tryz.prog.bytesOf e) (by
        rw [hx1]
        simp only [DataW.weights, ht]
        exact List.mem_cons_self)
      simp only [List.length_map, List.length_range] at this
      refine Nat.le_trans (Nat.mul_le_mul_right _ ?_) this
      omega
end
end Go.Proofs.YtmgggddnfeojmaaGreat
namespace Go.Proofs.YtmgggddnfeojmaaGreat
open Go.RowKit
open Go.Maps
/-- Entries that come in, of a told bulk. -/
structure LIn (w : World) (A : Option Addr) (l : List En) (n c : Nat) : Prop where
  len : l.length = n
  lies : Lies w A (evals l)
  ins : EIns w l
  fit : ∀ q ∈ l, EFit q
  cap : n ≤ c
  top : (c : Int) ≤ 9223372036854775807
  bulk : 5 * n + sizeE (ers l) ≤ 1048576
theorem LIn.kept {w w' : World} {A : Option Addr} {l : List En} {n c : Nat} (h : LIn w A l n c) (hb : Below w.heap.size w w') : LIn w' A l n c := ⟨h.len, h.lies.kept hb, h.ins.kept hb, h.fit, h.cap, h.top, h.bulk⟩
theorem size_mem {l : List Er} {x : Er} (h : x ∈ l) : x.1.length + x.2.2.2.length ≤ sizeE l := by
  induction l with
  | nil => cases h
  | cons a l ih =>
    rw [sizeE_cons]
    rcases List.mem_cons.1 h with rfl | h
    · omega
    · have := ih h
      omega
theorem LIn.small {w : World} {A : Option Addr} {l : List En} {n c : Nat} (h : LIn w A l n c) : n ≤ 209715 ∧ ∀ q ∈ l, q.k.l.length ≤ 1048576 ∧ q.v.l.length ≤ 1048576 := by
  have := h.bulk
  refine ⟨by omega, fun q hq => ?_⟩
  have := size_mem (l := ers l) (x := q.rd) (List.mem_map_of_mem hq)
  have e1 : q.rd.1 = q.k.l := rfl
  have e2 : q.rd.2.2.2 = q.v.l := rfl
  rw [e1, e2] at this
  omega
theorem fit_ers {l l' : List En} (he : ers l' = ers l) (h : ∀ q ∈ l, EFit q) : ∀ q ∈ l', EFit q := fun q hq => by
  have : q.rd ∈ ers l := he ▸ List.mem_map_of_mem hq
  obtain ⟨q', hq', e⟩ := List.mem_map.1 this
  exact fit_of (h q' hq') e.symm
theorem file_few {l : List Er} {k : Nat} (h : 5 * l.length + sizeE l ≤ 1048576) (ho : OrdL l) (hne : l ≠ []) (hB : ByL l) (h1 : 1 ≤ k) (h2 : k ≤ 1024) : (fileE l k).length ≤ 268435456 := by
  have := fileE_size ho hne hB h1 h2
  omega
theorem LIn.byl {w : World} {A : Option Addr} {l : List En} {n c : Nat} (h : LIn w A l n c) : ByL (ers l) := h.ins.byt
/-- A copy of them. -/
theorem LIn.copy {w w1 w' : World} {A : Option Addr} {l : List En} {n c : Nat} (h : LIn w A l n c) {e : Ending} (hc : ECopied w1 l e w') : ∃ (l' : List En) (A' : Option Addr) (c' : Nat), ers l' = ers l ∧ e = .returned (.slice A' n c') ∧ LIn w' A' l' n c' ∧ EMades w' w1.heap.size l' ∧ Erow w' w1.heap.size A' c' l' ∧ Below w1.heap.size w1 w' := by
  obtain ⟨l', A', c', h1, h2, h3, h4, h5⟩ := hc
  have hl : l'.length = n := by rw [← ers_len, h1, ers_len, h.len]
  have hcap := own_cap h4
  exact ⟨l', A', c', h1, by rw [h2, hl], ⟨hl, h4.lies, h3.ins (by rw [h1]; exact h.byl), fit_ers h1 h.fit, by rw [← hl]; exact hcap.1, hcap.2, by rw [h1]; exact h.bulk⟩, h3, h4, h5⟩
theorem copy_in {w : World} {A : Option Addr} {l : List En} {n c : Nat} (h : LIn w A l n c) : Calls Tryz.prog 13 #[.slice A n c] w (ECopied w l) :=
  refCopy_any A l n c w h.len h.lies h.ins (by have := h.small.1; omega) (fun q hq => by have := h.small.2 q hq; omega)
theorem write_in {B g : Nat} {p : Pk} {m : Vm} {s : ByteArray} {A : Option Addr} {l : List En} {n c : Nat} {b : Int} {w : World} (h : LIn w A l n c) (hp : PSt w B g p) (hv : p.vm = m) (hs : s.size ≤ 140737488355328) (hf : Fits m 268435456) (hsum : sumM m.fs ≤ 1099511627776) :
    Calls Tryz.prog 12 #[.pointer (some ⟨g, 0, none⟩), .string s, .slice A n c, .int .i64 b] w fun e w' => e = .returned (.int .i64 (writeV m s (ers l) b).2) ∧ Rest w B g p (writeV m s (ers l) b).1 w' :=
  write_any B g p m s A l n c b w hp hv hs h.len h.lies h.ins h.fit (by have := h.small.1; omega) h.cap h.top 268435456 (fun hne ho k h1 h2 => file_few (by have := h.bulk; rw [ers_len, h.len]; exact this) ho hne h.byl h1 h2) hf (by omega) (by decide)
theorem opened_whole {w w' : World} {F : List Int} {tb : Tb} {L : List Er} {e : Ending} (ht : tableP F = some tb) (hW : Whole L tb) (h : (((F, (0 : Int)).2 ≠ 0 ∧ e = .returned (.tuple #[.pointer none, .int .i64 ((F, (0 : Int)).2)])) ∨ ((F, (0 : Int)).2 = 0 ∧ tableP (F, (0 : Int)).1 = none ∧ e = .returned (.tuple #[.pointer none, .int .i64 11])) ∨ ((F, (0 : Int)).2 = 0 ∧ ∃ t : Tm, tableP (F, (0 : Int)).1 = some t.tb ∧ e = .returned (.tuple #[.pointer (some ⟨t.b, 0, none⟩), .int .i64 0]) ∧ TabAt w' t ∧ w.heap.size ≤ t.b ∧ w.heap.size ≤ t.mb ∧ t.cnt = (t.tb.rows.map Rw.count).sum))) :
    ∃ t : Tm, t.tb = tb ∧ e = .returned (.tuple #[.pointer (some ⟨t.b, 0, none⟩), .int .i64 0]) ∧ TabAt w' t ∧ t.cnt = (L.length : Nat) ∧ w.heap.size ≤ t.mb := by
  rcases h with ⟨h, -⟩ | ⟨-, h, -⟩ | ⟨-, t, h1, h2, h3, -, h5, h4⟩
  · exact absurd rfl h
  · simp only at h
    rw [ht] at h
    cases h
  · simp only at h1
    rw [ht] at h1
    injection h1 with h1
    exact ⟨t, h1.symm, h2, h3, by rw [h4, ← h1, hW.sum], h5⟩
/-- What the law makes. -/
def MadeE (w : World) (l : List En) (k : Nat) (e : Ending) (w' : World) : Prop := ∃ (t : Tm) (g : Nat) (p : Pk), e = .returned (.tuple #[.pointer (some ⟨t.b, 0, none⟩), .pointer (some ⟨g, 0, none⟩)]) ∧ TabAt w' t ∧ Whole (ers l) t.tb ∧ t.cnt = (ers l).length ∧ PSt w' w.heap.size g p ∧ p.vm = loneV sT (fileE (ers l) k) (fileE (ers l) k).length ∧ Below w.heap.size w w' ∧ w.heap.size ≤ t.mb
set_option maxRecDepth 100000 in
set_option maxHeartbeats 8000000 in
theorem made_any (A : Option Addr) (l : List En) (n c k : Nat) (w : World) (h : LIn w A l n c) (ho : OrdL (ers l)) (hne : ers l ≠ []) (h1 : 1 ≤ k) (h2 : k ≤ 1024) :
    Calls Tryz.prog 22 #[.slice A n c, .int .i64 k] w (MadeE w l k) := by
  have HH := Lib.hid h
  have W1 := write_calm (s := sT) (L := ers l) (k := k) okT h1 h2 hne ho
  have R1 := read_lone (s := sT) (fileE (ers l) k) (fileE (ers l) k).length okT
  obtain ⟨tb, ht, hW⟩ := whole_file (l := ers l) (size := k) ho hne h.byl h1 h2 (by rw [ers_len, h.len]; have := h.small.1; omega)
  have hF9 := file_few (by have := h.bulk; rw [ers_len, h.len]; exact this) ho hne h.byl h1 h2
  unfold MadeE
  obtain ⟨F, hF⟩ : ∃ F, fileE (ers l) k = F := ⟨_, rfl⟩
  rw [hF] at ht hF9 W1 R1 ⊢
  have HT := Lib.hid ht
  have HW := Lib.hid hW
  have HF9 := Lib.hid hF9
  have HW1 := Lib.hid W1
  have HR1 := Lib.hid R1
  clear h ht hW hF9 W1 R1 hF ho hne h1 h2
  go_enter Tryz.func22, Tryz.ntmps22
  go_wp2_with (first
    | (go_at_call 11; refine (calm_any _).mono ?_; rintro e w1 ⟨rfl, hb⟩; have B1 := Lib.hid hb; clear hb)
    | (go_at_call 10; refine (new_calm w1).mono ?_; rintro e w2 ⟨g, p2, rfl, hps, hv, hb⟩; have E2 : Hid (PSt w2 w.heap.size g p2 ∧ p2.vm = calmV ∧ Below w.heap.size w w2) := Lib.hid ⟨hps.mono B1.out.size, hv, B1.out.trans (hb.mono B1.out.size)⟩; clear hps hv hb)
    | (go_at_call 13; refine (copy_in (HH.out.kept E2.out.2.2)).mono ?_; intro e w3 hc; obtain ⟨l', A', c', he, rfl, hl', -, -, hb⟩ := HH.out.copy hc; have E3 : Hid (ers l' = ers l ∧ LIn w3 A' l' n c' ∧ PSt w3 w.heap.size g p2 ∧ Below w.heap.size w w3) := Lib.hid ⟨he, hl', E2.out.1.kept hb, E2.out.2.2.trans (hb.mono E2.out.2.2.size)⟩; clear hc he hl' hb)
    | (go_at_call 12; refine (write_in (s := sT) E3.out.2.1 E3.out.2.2.1 E2.out.2.1 (by decide) (fits_calm _ (by decide)) (by decide)).mono ?_; rw [E3.out.1, HW1.out]; rintro e w4 ⟨rfl, p4, s4, v4, d4⟩; have E4 : Hid (PSt w4 w.heap.size g p4 ∧ p4.vm = loneV sT F F.length ∧ Below w.heap.size w w4) := Lib.hid ⟨s4, v4, E3.out.2.2.2.trans (d4.below E3.out.2.2.2.size (fun k hk => (E3.out.2.2.1.owned k hk).1))⟩; clear s4 v4 d4)
    | (go_at_call 17; refine (open_any w.heap.size g p4 _ sT w4 E4.out.1 E4.out.2.1 (by decide) (fits_lone (by decide) (by have := HF9.out; omega)) (fun x hx => by rw [show (loneV sT F F.length).fs = [(sT, F, (F.length : Int))] from rfl, List.mem_singleton] at hx; subst hx; have := HF9.out; show F.length ≤ _; omega)).mono ?_; rw [HR1.out]; rintro e w5 ⟨b5, h5⟩; obtain ⟨t, hts, rfl, hta, hcnt, hmb⟩ := opened_whole HT.out HW.out h5; have E5 : Hid (t.tb = tb ∧ TabAt w5 t ∧ t.cnt = (ers l).length ∧ Below w4.heap.size w4 w5 ∧ w4.heap.size ≤ t.mb) := Lib.hid ⟨hts, hta, hcnt, b5, hmb⟩; clear hts hta hcnt b5 h5 hmb))
  go_ret2
  exact ⟨t, g, p4, rfl, E5.out.2.1, by rw [E5.out.1]; exact HW.out, E5.out.2.2.1, E4.out.1.kept E5.out.2.2.2.1, E4.out.2.1, E4.out.2.2.trans (E5.out.2.2.2.1.mono E4.out.2.2.size), by have := E4.out.2.2.size; have := E5.out.2.2.2.2; omega⟩
end Go.Proofs.YtmgggddnfeojmaaGreat
namespace Go.Proofs.YtmgggddnfeojmaaGreat
open Go.ChangeShapes Go.WideShapes Go.ChangeAt Go.RowKit
section
variable {H : Type} {enc : TypeId × Value → H} {W : World} {fuel : Nat} {cs : List Value} {x : DataW H × List MemPlace}
theorem open_entries_up (h : DataW.trod enc Tryz.prog W 0 (fun _ => true) true fuel 22 cs = some x) (hb : Rows.uptoBulk x.1 ≤ 1048576) (A : Option Addr) (n c : Nat) (hcs : cs = [.slice A n c]) : ∃ l, LIn W A l n c := by
  obtain ⟨l, h1, h0, h2, ds, h3, h4, h5, -⟩ := open_rows (α := En) En.cells 4 (fun _ => rfl) (by omega) cells48 Tryz.underlying22 h A n c hcs (fun q d => (In W q.k.a q.k.l q.k.l.length q.k.c ∧ In W q.v.a q.v.l q.v.l.length q.v.c) ∧ EFit q ∧ q.k.l.length + q.v.l.length + 5 ≤ Rows.uptoBulk d) (fun m cs' y hy _ _ => by
    obtain ⟨q, e1, e2, e3, e4, _⟩ := open_entry hy
    exact ⟨q, e1, e2, e3, e4⟩)
  have hall : ∀ q ∈ l, (In W q.k.a q.k.l q.k.l.length q.k.c ∧ In W q.v.a q.v.l q.v.l.length q.v.c) ∧ EFit q := fun q hq => by
    obtain ⟨i, hi, e⟩ := List.mem_iff_getElem.1 hq
    have := h4 i q (ds[i]'(by omega)) (by rw [List.getElem?_eq_getElem hi, e]) (List.getElem?_eq_getElem (by omega))
    exact ⟨this.1, this.2.1⟩
  have hs := bulk_add (fun q : En => q.k.l.length + q.v.l.length + 4) l ds h3 (fun i q d a1 a2 => by have := (h4 i q d a1 a2).2.2; omega)
  have e : (l.map (fun q : En => q.k.l.length + q.v.l.length + 4)).sum = sizeE (ers l) + 4 * l.length := by
    clear h1 h2 h3 h4 hs hall
    induction l with
    | nil => rfl
    | cons q r ih =>
      rw [List.map_cons, List.sum_cons, ih, show ers (q :: r) = q.rd :: ers r from rfl, sizeE_cons, List.length_cons]
      show _ = q.k.l.length + q.v.l.length + _ + _
      omega
  rw [e] at hs
  exact ⟨l, h1, h2, fun q hq => (hall q hq).1, fun q hq => (hall q hq).2, h0.1, h0.2, by omega⟩
end
end Go.Proofs.YtmgggddnfeojmaaGreat
namespace Go.Proofs.YtmgggddnfeojmaaGreat
open Go.RowKit
open Go.Maps
theorem ordered_in {w : World} {A : Option Addr} {l : List En} {n c : Nat} (h : LIn w A l n c) : Calls Tryz.prog 14 #[.slice A n c] w fun e w' => e = .returned (.bool (decide (OrdL (ers l)))) ∧ Below w.heap.size w w' :=
  refOrdered_any A l n c w h.len h.lies h.ins (by have := h.small.1; omega) (fun q hq => by have := (h.small.2 q hq).1; omega)
end Go.Proofs.YtmgggddnfeojmaaGreat
namespace Go.Proofs.YtmgggddnfeojmaaGreat.GetX
open Go.RowKit Go.Shelf
attribute [local go_sem] Oper.semAt_some
def ClG (X H : Nat) : World → Nat → Prop := fun _ g => X ≤ g ∧ g < H + 8
/-- What Get answers. -/
def GetE (X : Nat) (t : Tm) (K : List Int) (s : Int) (w : World) (e : Ending) (w' : World) : Prop := ∃ (y : En) (b : Bool) (er : Int), AnsG (getP t.tb K s) y b er ∧ e = .returned (.tuple #[y.val, .bool b, .int .i64 er]) ∧ Row w' w.heap.size y.k.a y.k.c y.k.l ∧ Row w' w.heap.size y.v.a y.v.c y.v.l ∧ Tw t.mb w w' ∧ TabW (fun g => X ≤ g ∧ g < w.heap.size) w' t
def IG (X H : Nat) (w : World) (t : Tm) (k : Sl) (s : Int) (z : Nat × World) (W : World) : Prop := z.1 = 0 ∧ KG H w t k s W ∧ TabW (ClG X H W) W t
def XG (X H : Nat) (w : World) (t : Tm) (k : Sl) (s : Int) (z : Nat × World) (W : World) : Prop := Fr (ClG X H) z.2 W ∧ TabW (ClG X H W) W t ∧ Tw t.mb w W ∧ GotG H (getP t.tb k.l s) W ∧ (z.1 = 2 → getP t.tb k.l s = (none, false))
section
variable {X H : Nat} {w W W' : World} {t : Tm} {k : Sl} {s : Int}
theorem fr_grown (hX : X ≤ H) {row : Option Nat} (hg : W.grownBy W' row) (hr : ∀ r, row = some r → H + 6 ≤ r ∧ r < H + 8) : Fr (ClG X H) W W' := fun g o ho hn => ⟨grown_obj ho hg (fun e => hn (by have := hr g e.symm; unfold ClG; omega)), hn⟩
theorem OwnAt.ig (hw : w.heap.size ≤ H) (hm : t.mb < X ∧ X ≤ H) : OwnAt (H + 6) (IG X H w t k s) := fun z W W' row ⟨h1, h2, h3⟩ hg hr => by
  have hr' : ∀ r, row = some r → H + 6 ≤ r ∧ r < H + 8 := fun r e => by have := (hr r e).1; omega
  exact ⟨h1, h2.grow hw hg (fun r e => (hr' r e).1), h3.fr (fr_grown hm.2 hg hr') (by unfold ClG; omega)⟩
theorem OwnAt.xg (hw : w.heap.size ≤ H) (hm : t.mb < X ∧ X ≤ H) : OwnAt (H + 6) (XG X H w t k s) := fun z W W' row ⟨h1, h2, h3, h4, h5⟩ hg hr => by
  have hr' : ∀ r, row = some r → H + 6 ≤ r ∧ r < H + 8 := fun r e => by have := (hr r e).1; omega
  have hf := fr_grown (X := X) (H := H) hm.2 hg hr'
  exact ⟨h1.trans hf, h2.fr hf (by unfold ClG; omega), h3.grow hg (fun r e => by have := (hr' r e).1; omega), h4.grow hg (fun r e => ⟨(hr' r e).1, (hr r e).2⟩), h5⟩
/-- The one who looks, as the one who asks. -/
theorem get_asks {M : Nat} (hw : w.heap.size = H) (hk0 : In w k.a k.l k.l.length k.c) (hm : t.mb < X ∧ X ≤ H) (hmm : MapAt w t.mb) (R : World → Prop) (R' : Nat × World → World → Prop)
    (hR : ∀ W W', R W → Two (H + 6) W W' → R W') (hRs : ∀ W, R W → H + 6 + 2 ≤ W.heap.size ∧ (∃ L, W.heap[H + 6 + 1]? = some (.loop L)) ∧ ∃ d, W.heap[H + 6]? = some (.deferred d))
    (hno : ∀ z args z' W, OffG t k s z args z' W → IG X H w t k s z W → R W → YieldAt Fence.wide M Tryz.prog (H + 6 + 1) args W fun e W' => e = .returned (.bool false) ∧ XG X H w t k s z' W' ∧ R' z' W') :
    Asks t (keyE k s) (H + 4) (H + 5) M (H + 6 + 1) (fun _ => true) (fun j W => (j = 0 ∧ KG H w t k s W) ∧ R W) (fun _ W => ∃ z : Nat × World, z.1 ≠ 0 ∧ XG X H w t k s z W ∧ R' z W) (ClG X H) where
  box := fun j W ⟨⟨_, h⟩, _⟩ => by
    have h4 := h.b4
    have h5 := h.b5
    refine ⟨by simp [World.cell?, h4], ⟨?_, ?_, ?_, ?_⟩, hk0.tw h.tw hmm, in_nil W⟩ <;> simp [World.cell?, h5, keyE, Sl.val]
  own := fun j W ⟨⟨_, h⟩, r⟩ => ⟨fun g q => by have := (hRs W r).1; unfold ClG at q; omega, by unfold ClG; omega⟩
  stay := fun j W W' ⟨⟨h0, h⟩, r⟩ hm' ht => by
    obtain ⟨-, ⟨L, e1⟩, d, e2⟩ := hRs W r
    exact ⟨⟨⟨h0, h.tw2 (by omega) ht⟩, hR W W' r ⟨(ht.obj e2 (by omega)).trans e2.symm, (ht.obj e1 (by omega)).trans e1.symm⟩⟩, fun g q => q⟩
  yes := fun j W y hM hst _ _ _ _ => by cases hst
  no := fun j W y hM _ ⟨⟨h0, h⟩, r⟩ hT hE hF => by
    subst h0
    obtain ⟨M', hM'⟩ : ∃ M', (goP t.tb (keyE k s).rd).1 = y.rd :: M' := by
      cases hq : (goP t.tb (keyE k s).rd).1 with
      | nil => rw [hq] at hM; simp at hM
      | cons a l => rw [hq] at hM; injection hM with hM; exact ⟨l, by rw [hM]⟩
    refine (hno (0, W) _ (if y.k.l = k.l then 1 else 2, W) W ⟨rfl, rfl, .inl ⟨y, M', hM', rfl, hE, hF, rfl⟩⟩ ⟨rfl, h, hT⟩ r).mono ?_
    rintro e W' ⟨rfl, k1, k2⟩
    exact ⟨rfl, ⟨_, by simp only; split <;> decide, k1, k2⟩, k1.1⟩
  bad := fun W hb ⟨⟨h0, h⟩, r⟩ hT => by
    have hp : goP t.tb (keyE k s).rd = ([], true) := Prod.ext (List.eq_nil_of_length_eq_zero h0) hb
    refine (hno (0, W) _ (3, W) W ⟨rfl, rfl, .inr ⟨hp, rfl, rfl⟩⟩ ⟨rfl, h, hT⟩ r).mono ?_
    rintro e W' ⟨rfl, k1, k2⟩
    exact ⟨rfl, ⟨_, by simp, k1, k2⟩, k1.1⟩
/-- A round's beginning. -/
theorem ig_round {z : Nat × World} {W₂ : World} {o : Obj} (hw : w.heap.size = H) (hm : t.mb < X ∧ X ≤ H) (hi : IG X H w t k s z W) (hz : H + 8 ≤ W.heap.size) (g2 : (W.alloc o).grownBy W₂ (some (H + 6 + 1))) (hl : ∃ o' : Obj, (W.alloc o).heap[H + 6 + 1]? = some o' ∧ o'.isCells = false) :
    KG H w t k s W₂ ∧ Fr (ClG X H) W W₂ ∧ TabW (ClG X H W₂) W₂ t ∧ H + 8 ≤ W₂.heap.size ∧ W₂.heap[W.heap.size]? = some o := by
  have hb := below_new W o
  have f1 : Fr (ClG X H) W (W.alloc o) := Fr.below hb (fun g q => q)
  have hr : ∀ r, some (H + 6 + 1) = some r → H + 6 ≤ r ∧ r < H + 8 := fun r e => by injection e with e; omega
  have f2 := f1.trans (fr_grown (H := H) hm.2 g2 hr)
  have hs := g2.size
  rw [World.size_alloc] at hs
  exact ⟨(hi.2.1.tw2 (by omega) (Tw.of_below hb)).grow (by omega) g2 (fun r e => (hr r e).1), f2, hi.2.2.fr f2 (by unfold ClG; omega), by omega, grown_obj (heap_alloc_new W o) g2 (fun e => by injection e with e; omega)⟩
/-- A round's end. -/
theorem xg_core {V W₂ W3 W5 : World} {y : En} {b : Bool} {er : Int} (n : Nat) (hm : t.mb < X ∧ X ≤ H) (hw : w.heap.size = H) (h2 : KG H w t k s W₂) (f2 : Fr (ClG X H) V W₂) (hT : TabW (ClG X H W₂) W₂ t) (hz : H ≤ W₂.heap.size) (b3 : Below W₂.heap.size W₂ W3) (k5 : Kp (fun j => j ≠ H + 1 ∧ j ≠ H + 1 + 1 ∧ j ≠ H + 1 + 1 + 1) W3 W5) (hr : ResG H y b er W5) (ha : AnsG (getP t.tb k.l s) y b er) (r1 : Row W3 W₂.heap.size y.k.a y.k.c y.k.l) (r2 : Row W3 W₂.heap.size y.v.a y.v.c y.v.l) (hx : H + 4 ≤ W₂.heap.size) (h22 : n = 2 → getP t.tb k.l s = (none, false)) :
    (∀ g o, W₂.heap[g]? = some o → (g ≠ H + 1 ∧ g ≠ H + 1 + 1 ∧ g ≠ H + 1 + 1 + 1) → W5.heap[g]? = some o) ∧ XG X H w t k s (n, V) W5 := by
  have ho : ∀ g o, W₂.heap[g]? = some o → (g ≠ H + 1 ∧ g ≠ H + 1 + 1 ∧ g ≠ H + 1 + 1 + 1) → W5.heap[g]? = some o := fun g o hg hn => (k5.block g hn).trans (obj_kept hg b3 (Nat.le_refl _))
  have f5 : Fr (ClG X H) W₂ W5 := fun g o hg hn => ⟨ho g o hg (by unfold ClG at hn; omega), hn⟩
  have hrow : ∀ {A : Option Addr} {c : Nat} {L : List Int}, Row W3 W₂.heap.size A c L → Row W5 H A c L := fun r => own_mono (own_kp r k5 (fun ad ha => by have := (own_in r ad ha).1; omega)) (by omega)
  refine ⟨ho, f2.trans f5, hT.fr f5 (by unfold ClG; omega), ?_, ⟨y, b, er, hr, ha, hrow r1, hrow r2⟩, h22⟩
  refine ⟨k5.os.trans (b3.os.trans h2.tw.os), k5.tape.trans (b3.tape.trans h2.tw.tape), k5.output.trans (b3.output.trans h2.tw.output), Nat.le_trans h2.tw.size (Nat.le_trans b3.size k5.size), fun j hj => ?_⟩
  have hj2 := h2.tw.size
  exact (k5.block j (by omega)).trans ((b3.block j (by omega)).trans (h2.tw.block j hj))
theorem xg_end {V W₂ W3 W5 : World} {y : En} {b : Bool} {er : Int} (n : Nat) (hm : t.mb < X ∧ X ≤ H) (hw : w.heap.size = H) (h2 : KG H w t k s W₂) (f2 : Fr (ClG X H) V W₂) (hT : TabW (ClG X H W₂) W₂ t) (hz : H + 8 ≤ W₂.heap.size) (b3 : Below W₂.heap.size W₂ W3) (k5 : Kp (fun j => j ≠ H + 1 ∧ j ≠ H + 1 + 1 ∧ j ≠ H + 1 + 1 + 1) W3 W5) (hr : ResG H y b er W5) (ha : AnsG (getP t.tb k.l s) y b er) (r1 : Row W3 W₂.heap.size y.k.a y.k.c y.k.l) (r2 : Row W3 W₂.heap.size y.v.a y.v.c y.v.l) (h22 : n = 2 → getP t.tb k.l s = (none, false)) :
    Two (H + 6) W₂ W5 ∧ XG X H w t k s (n, V) W5 := by
  obtain ⟨ho, hx⟩ := xg_core n hm hw h2 f2 hT (by omega) b3 k5 hr ha r1 r2 (by omega) h22
  obtain ⟨o3, g3⟩ : ∃ o, W₂.heap[H + 6]? = some o := ⟨_, Array.getElem?_eq_getElem (by omega)⟩
  obtain ⟨o4, g4⟩ : ∃ o, W₂.heap[H + 6 + 1]? = some o := ⟨_, Array.getElem?_eq_getElem (by omega)⟩
  exact ⟨⟨(ho _ _ g3 (by omega)).trans g3.symm, (ho _ _ g4 (by omega)).trans g4.symm⟩, hx⟩
/-- Behind a break. -/
theorem xg_zero {z : Nat × World} {W5 : World} (hm : t.mb < X ∧ X ≤ H) (hw : w.heap.size = H) (hx : XG X H w t k s z W) (k5 : Kp (fun j => j ≠ H + 1 ∧ j ≠ H + 1 + 1 ∧ j ≠ H + 1 + 1 + 1) W W5) (hz : H ≤ W.heap.size) : Tw t.mb w W5 ∧ TabW (ClG X H W5) W5 t := by
  obtain ⟨-, h2, h3, -⟩ := hx
  refine ⟨⟨k5.os.trans h3.os, k5.tape.trans h3.tape, k5.output.trans h3.output, Nat.le_trans h3.size k5.size, fun j hj => (k5.block j (by omega)).trans (h3.block j hj)⟩, ?_⟩
  exact h2.fr (fun g o hg hn => ⟨(k5.block g (by unfold ClG at hn; omega)).trans hg, hn⟩) (by unfold ClG; omega)
end
theorem get_answer {X H : Nat} {y : En} {b : Bool} {er : Int} {w W : World} {t : Tm} {K : List Int} {s : Int} (hw : w.heap.size = H) (hr : ResG H y b er W) (ha : AnsG (getP t.tb K s) y b er) (r1 : Row W H y.k.a y.k.c y.k.l) (r2 : Row W H y.v.a y.v.c y.v.l) (ht : Tw t.mb w W) (hT : TabW (ClG X H W) W t) (hm : t.mb < X ∧ X ≤ H) (hK : W.heap[H + 6]? = some (.deferred (some []))) :
    GetE X t K s w (.returned (.tuple #[.agg #[.slice y.k.a y.k.l.length y.k.c, .int .i64 y.s, .bool y.d, .slice y.v.a y.v.l.length y.v.c], .bool b, .int .i64 er])) (W.putObj (H + 6) (.deferred none)) := by
  have hg := grownBy_putObj' W (H + 6) (.deferred none)
  have hr' : ∀ r, some (H + 6) = some r → H + 6 ≤ r ∧ ∃ o : Obj, W.heap[r]? = some o ∧ o.isCells = false := fun r e => by injection e with e; subst e; exact ⟨Nat.le_refl _, _, hK, rfl⟩
  subst hw
  exact ⟨y, b, er, ha, rfl, own_abide r1 hg (fun r e => (hr' r e).2), own_abide r2 hg (fun r e => (hr' r e).2), ht.grow hg (fun r e => by have := (hr' r e).1; omega), (hT.fr (fr_grown (H := w.heap.size) hm.2 hg (fun r e => by injection e with e; omega)) (by unfold ClG; omega)).less (fun g hg => by unfold ClG; omega)⟩
set_option maxRecDepth 100000 in
set_option maxHeartbeats 8000000 in
theorem get_any (X : Nat) (t : Tm) (k : Sl) (s : Int) (w : World) (h : TabW (fun g => X ≤ g ∧ g < w.heap.size) w t) (hmX : t.mb < X) (hX : X ≤ w.heap.size) (hk : In w k.a k.l k.l.length k.c) (hrl : t.R.length ≤ 2305843009213693952) :
    Calls Tryz.prog 23 #[.pointer (some ⟨t.b, 0, none⟩), .slice k.a k.l.length k.c, .int .i64 s] w (GetE X t k.l s w) := by
  have HH := Lib.hid h
  have HK := Lib.hid hk
  have HRL := Lib.hid hrl
  have HMT : Hid (t.mb < X ∧ X ≤ w.heap.size) := Lib.hid ⟨hmX, hX⟩
  obtain ⟨n, hn⟩ : ∃ n, k.l.length = n := ⟨_, rfl⟩
  have HN := Lib.hid hn
  rw [hn]
  clear h hk hrl hn hmX hX
  refine (callsIn_wide (n := 9)).1 ?_
  refine callsIn_of_wp_marks Tryz.func23 rfl trivial ?_ rfl
  simp only [Tryz.ntmps23, List.size_toArray, List.length_cons, List.length_nil, Nat.reduceAdd, Nat.reduceSub, Array.replicate_succ, Array.replicate_zero, List.push_toArray, List.append_toArray, List.nil_append, List.cons_append]
  gi_wp2_with (refine ⟨trivial, ?_⟩; gi_at_call 44; refine (callsIn_wide.2 (from_any _ _ _ _ _ _ _ _ _ _)).mono ?_; rintro e w' ⟨rfl, rfl⟩)
  obtain ⟨hq, hs, hb⟩ := allocs_get [.cells #[.slice k.a n k.c] 42, .cells #[.slice none 0 0, .int .i64 0, .bool false, .slice none 0 0] 48, .cells #[.bool false] 4, .cells #[.int .i64 0] 30, .cells #[.pointer (some ⟨t.b, 0, none⟩)] 37, .cells #[.slice k.a n k.c, .int .i64 s, .bool false, .slice none 0 0] 48] w
  have q0 := hq 0 _ rfl
  have q1 := hq 1 _ rfl
  have q2 := hq 2 _ rfl
  have q3 := hq 3 _ rfl
  have q4 := hq 4 _ rfl
  have q5 := hq 5 _ rfl
  simp only [List.foldl_cons, List.foldl_nil, List.length_cons, List.length_nil, Nat.reduceAdd, Nat.add_zero] at hs hb q0 q1 q2 q3 q4 q5
  clear hq
  obtain ⟨W0, hW0⟩ : ∃ W0, ((((((w.alloc (.cells #[.slice k.a n k.c] 42)).alloc (.cells #[.slice none 0 0, .int .i64 0, .bool false, .slice none 0 0] 48)).alloc (.cells #[.bool false] 4)).alloc (.cells #[.int .i64 0] 30)).alloc (.cells #[.pointer (some ⟨t.b, 0, none⟩)] 37)).alloc (.cells #[.slice k.a n k.c, .int .i64 s, .bool false, .slice none 0 0] 48)) = W0 := ⟨_, rfl⟩
  rw [hW0] at q0 q1 q2 q3 q4 q5 hs hb ⊢
  clear hW0
  obtain ⟨H, hH⟩ : ∃ H, w.heap.size = H := ⟨_, rfl⟩
  have hI0 : IG X H w t k s (0, W0) W0 := by
    rw [hH] at q0 q1 q2 q3 q4 q5
    refine ⟨rfl, ⟨Tw.of_below hb, ?_, ⟨q1, q2, q3⟩, q4, ?_⟩, (HH.out.turn (S' := ClG X H W0) (fun g o ho hn => ⟨ho, fun q => hn ⟨q.1, (Array.getElem?_eq_some_iff.1 ho).1⟩⟩) (fun q => by have := HMT.out; omega)).kept hb⟩
    · rw [q0, ← HN.out]
      rfl
    · rw [q5, ← HN.out]
      rfl
  rw [hH] at hs HMT ⊢
  have hOI : OwnAt (H + 6) (IG X H w t k s) := OwnAt.ig (by omega) HMT.out
  have hOX : OwnAt (H + 6) (XG X H w t k s) := OwnAt.xg (by omega) HMT.out
  rw [← hs] at hOI hOX
  clear q0 q1 q2 q3 q4 q5 hb
  refine range_toldK (σ := Nat × World) (gf := 70) (lb := #[.pointer (some ⟨H + 4, 0, none⟩), .pointer (some ⟨H + 5, 0, none⟩)]) rfl (enters_of Tryz.func70 (by kernel_rfl) rfl)
    (IG X H w t k s) (XG X H w t k s) (fun z => if z.1 = 2 then .exit 0 else .ret) hOI hOX (fun _ _ _ _ => False) (OffG t k s) (0, W0) hI0
    (fun z => z.1 = 0 ∧ goP t.tb (keyE k s).rd = ([], false)) (fun z => z.1 ≠ 0) ?size ?on ?off ?iter ?done ?left
  case size =>
    rintro z args z' W (h | ⟨-, -, (⟨y, M, -, rfl, -⟩ | ⟨-, rfl, -⟩)⟩)
    · exact h.elim
    · rfl
    · rfl
  case on =>
    rintro z args z' W h
    exact h.elim
  case iter =>
    intro R R' hR hRs hyes hno hR' hRs' W hi hr
    rw [hs] at hR hRs hno ⊢
    refine (from_iter 7 (H + 6 + 1) (H + 4) (H + 5) t (keyE k s) _ _ _ _ (get_asks hH HK.out HMT.out HH.out.at_.mapAt R R' hR hRs hno) HRL.out W ⟨⟨⟨rfl, hi.2.1⟩, hr⟩, hi.2.2⟩).mono ?_
    rintro e W' ⟨hv, hq, hT⟩
    rcases hq with ⟨q1, q2, ⟨q3, q4⟩, q5⟩ | ⟨s', q1, z, q2, q3, q4⟩
    · exact ⟨hv, .inl ⟨(0, W'), ⟨rfl, Prod.ext (List.eq_nil_of_length_eq_zero q3) q1⟩, ⟨rfl, q4, hT⟩, q5⟩⟩
    · exact ⟨hv, .inr ⟨z, q2, q3, q4⟩⟩
  case done =>
    rintro z W ⟨d1, d2⟩ hi hK
    rw [hs] at hK ⊢
    obtain ⟨⟨p0, p1, p2, p3, p4, p5⟩, f0, f1, f2, f3, f4, f5⟩ := res_cells hi.2.1.res
    obtain ⟨r1, r2⟩ := setG_facts (e := .slice none 0 0) (f := .int .i64 0) (g := .bool false) (h := .slice none 0 0) (u := .bool false) (v := .int .i64 0) hi.2.1.res.1 hi.2.1.res.2.1 hi.2.1.res.2.2
    have hlt := (Array.getElem?_eq_some_iff.1 hK).1
    obtain ⟨e1, e2⟩ := xg_core (V := W) 0 HMT.out hH hi.2.1 (Fr.refl _ _) hi.2.2 (by omega) (Below.refl _ _) r2 (y := zeroEn) (b := false) (er := 0) r1 (.inr ⟨by rw [getP_of d2]; rfl, rfl, rfl, by rw [getP_of d2]; rfl⟩) (Row.nil _ _) (Row.nil _ _) (by omega) (fun e => by cases e)
    have hK2 := e1 _ _ hK (by omega)
    obtain ⟨-, e3, e4, ⟨y, b, er, e5, e6, e7, e8⟩, -⟩ := e2
    have HA := Lib.hid (get_answer (s := s) hH e5 e6 e7 e8 e4 e3 HMT.out hK2)
    have HR := Lib.hid (put_res e5)
    have HK2 := Lib.hid hK2
    clear hi hK r1 r2 e1 e3 e4 e5 e6 e7 e8 hK2
    gi_wp2
    refine ⟨by simp, .inl ⟨_, _, rfl, run_takeDeferred HK2.out, ?_⟩⟩
    refine ⟨_, ?_, HA.out⟩
    obtain ⟨⟨p0, p1, p2, p3, p4, p5⟩, -⟩ := res_cells HR.out
    rw [results_ccc rfl]
    go_simp
  case left =>
    rintro z W hl hi hK
    rw [hs] at hK ⊢
    have hi' := hi
    obtain ⟨e2, e3, e4, ⟨y, b, er, e5, e6, e7, e8⟩, e9⟩ := hi'
    by_cases hz : z.1 = 2
    · rw [if_pos hz]
      obtain ⟨⟨p0, p1, p2, p3, p4, p5⟩, f0, f1, f2, f3, f4, f5⟩ := res_cells e5
      obtain ⟨r1, r2⟩ := setG_facts (e := .slice none 0 0) (f := .int .i64 0) (g := .bool false) (h := .slice none 0 0) (u := .bool false) (v := .int .i64 0) e5.1 e5.2.1 e5.2.2
      have hlt := (Array.getElem?_eq_some_iff.1 hK).1
      obtain ⟨x1, x2⟩ := xg_zero HMT.out hH hi r2 (by omega)
      have hK2 := (r2.block (H + 6) (by omega)).trans hK
      have HA := Lib.hid (get_answer (y := zeroEn) (b := false) (er := 0) (s := s) hH r1 (.inr ⟨by rw [e9 hz], rfl, rfl, by rw [e9 hz]; rfl⟩) (Row.nil _ _) (Row.nil _ _) x1 x2 HMT.out hK2)
      have HR := Lib.hid (put_res (y := zeroEn) (b := false) (er := 0) r1)
      have HK2 := Lib.hid hK2
      clear hi hK r1 r2 e2 e3 e4 e5 e6 e7 e8 e9 hK2 x1 x2 hz hl
      gi_wp2
      refine ⟨by simp, .inl ⟨_, _, rfl, run_takeDeferred HK2.out, ?_⟩⟩
      refine ⟨_, ?_, HA.out⟩
      obtain ⟨⟨p0, p1, p2, p3, p4, p5⟩, -⟩ := res_cells HR.out
      rw [results_ccc rfl]
      go_simp
    · rw [if_neg hz]
      have HA := Lib.hid (get_answer (s := s) hH e5 e6 e7 e8 e4 e3 HMT.out hK)
      obtain ⟨⟨p0, p1, p2, p3, p4, p5⟩, -⟩ := res_cells (put_res e5)
      have HK2 := Lib.hid hK
      clear hK e2 e3 e4 e5 e6 e7 e8 e9 hi hz hl
      gi_wp2
      refine ⟨by simp, .inl ⟨_, _, rfl, run_takeDeferred HK2.out, ?_⟩⟩
      refine ⟨_, ?_, HA.out⟩
      rw [results_ccc rfl]
      go_simp
  case off =>
    rintro z args z' W ⟨h0, h2, hc⟩ hi hsz
    rw [hs] at hsz
    unfold RoundOf
    rw [hs]
    obtain ⟨J, hJ⟩ : ∃ J, (if z'.1 = 2 then Code.exit 0 else .ret) = J := ⟨_, rfl⟩
    rw [hJ]
    have HJ := Lib.hid hJ
    clear hJ
    rcases hc with ⟨y, M, hM, rfl, hE, hF, hz'⟩ | ⟨hM, rfl, hz'⟩
    · obtain ⟨yn, hyn⟩ : ∃ q, y.k.l.length = q := ⟨_, rfl⟩
      obtain ⟨vn, hvn⟩ : ∃ q, y.v.l.length = q := ⟨_, rfl⟩
      rw [En.val_eq, hyn, hvn]
      replace hz' := Lib.hid hz'
      gi_wp2
      refine ⟨Two.below ((Below.refl (H + 8) W).alloc hsz _) (by omega), fun W₂ g2 hl => ?_⟩
      obtain ⟨k2, f2, t2, s2, e2⟩ := ig_round hH HMT.out hi hsz g2 hl
      have y2 : EIn W₂ y := (hE.kept (below_new W _)).abide g2 (fun r e => by injection e with e; subst e; exact hl)
      clear g2 hl
      obtain ⟨E, hEE⟩ : ∃ E, W.heap.size = E := ⟨_, rfl⟩
      rw [hEE] at e2 ⊢
      obtain ⟨c0, c1, c2, c3⟩ : W₂.cell? ⟨E, 0, none⟩ = some (.slice y.k.a yn y.k.c) ∧ W₂.cell? ⟨E, 1, none⟩ = some (.int .i64 y.s) ∧ W₂.cell? ⟨E, 2, none⟩ = some (.bool y.d) ∧ W₂.cell? ⟨E, 3, none⟩ = some (.slice y.v.a vn y.v.c) := by
        refine ⟨?_, ?_, ?_, ?_⟩ <;> simp [World.cell?, e2]
      have cH : W₂.cell? ⟨H, 0, none⟩ = some (.slice k.a n k.c) := by
        have := k2.b0
        simp [World.cell?, this, Sl.val, HN.out]
      have HEQ := Lib.hid (equal_any y.k.a k.a y.k.l k.l yn n y.k.c k.c W₂ (hyn ▸ y2.1) (HN.out ▸ (HK.out.tw k2.tw HH.out.at_.mapAt)))
      have hgd := goP_good (t := t.tb) (e := (keyE k s).rd) (x := y.rd) (j := 0) (by rw [hM]; rfl)
      have HCL := Lib.hid (eclone_any y W₂ y2 (by have := hgd.1.2; unfold En.rd at this; simp only at this; omega) (by have := hgd.2.2.1; unfold En.rd at this; simp only at this; omega))
      rw [En.val_eq, hyn, hvn] at HCL
      have HK2 := Lib.hid k2
      have HF2 := Lib.hid f2
      have HT2 := Lib.hid t2
      have HS2 := Lib.hid s2
      have HP : Hid (getP t.tb k.l s = firstP k.l (y.rd :: M, (goP t.tb (keyE k s).rd).2)) := Lib.hid (getP_of (Prod.ext hM rfl))
      have HZ2 := Lib.hid h2
      clear k2 f2 t2 s2 e2 hyn hvn hgd hE hF y2 hi hM hsz hEE h0 h2 hOI hOX
      by_cases hk : y.k.l = k.l
      · replace hz' := hz'.out
        rw [if_pos hk] at hz'
        have hkd : decide (y.k.l = k.l) = true := by simpa using hk
        rw [hkd] at HEQ
        have HGP : Hid (getP t.tb k.l s = (some y.rd, false)) := Lib.hid (by rw [HP.out]; exact if_pos hk)
        have HRES : Hid (∀ W3, Below W₂.heap.size W₂ W3 → ResG H zeroEn false 0 W3) := Lib.hid (fun W3 b3 => HK2.out.res.of (fun g o h1 h2 ho => obj_kept ho b3 (Nat.le_refl _)))
        have HZ1 := Lib.hid hz'
        clear hk hkd hz'
        gi_wp2_with (first
          | (refine ⟨trivial, ?_⟩; gi_at_call 45; refine (CallsIn.inRound _ (callsIn_wide.2 HEQ.out)).mono ?_; rintro e w' ⟨rfl, rfl⟩; clear HEQ)
          | (refine ⟨trivial, ?_⟩; gi_at_call 46; refine (CallsIn.inRound _ (callsIn_wide.2 HCL.out)).mono ?_; rintro e W3 ⟨y', hrd, rfl, r1, r2, b3⟩; have HRD := Lib.hid hrd; have R1 := Lib.hid r1; have R2 := Lib.hid r2; have B3 := Lib.hid b3; obtain ⟨⟨p0, p1, p2, p3, p4, p5⟩, f0, f1, f2', f3, f4, f5⟩ := res_cells (HRES.out W3 b3); rw [En.val_eq]; clear hrd r1 r2 b3 HCL c0 c1 c2 c3 cH))
        have hR3 := HRES.out W3 B3.out
        obtain ⟨s1, s2⟩ := setG_facts (e := .slice y'.k.a y'.k.l.length y'.k.c) (f := .int .i64 y'.s) (g := .bool y'.d) (h := .slice y'.v.a y'.v.l.length y'.v.c) (u := .bool true) (v := .int .i64 0) hR3.1 hR3.2.1 hR3.2.2
        obtain ⟨x1, x2⟩ := xg_end z'.1 HMT.out hH HK2.out HF2.out HT2.out HS2.out B3.out s2 (y := y') (b := true) (er := 0) s1 (.inl ⟨by rw [HGP.out, HRD.out], rfl, rfl⟩) R1.out R2.out (fun e => by rw [HZ1.out] at e; cases e)
        refine ⟨by rw [← HJ.out, HZ1.out]; rfl, x1, ?_⟩
        rw [← HZ2.out] at x2
        exact x2
      · replace hz' := hz'.out
        rw [if_neg hk] at hz'
        have hkd : decide (y.k.l = k.l) = false := by simpa using hk
        rw [hkd] at HEQ
        have HGP : Hid (getP t.tb k.l s = (none, false)) := Lib.hid (by rw [HP.out]; exact if_neg hk)
        have HZ1 := Lib.hid hz'
        clear hk hkd hz'
        gi_wp2_with (refine ⟨trivial, ?_⟩; gi_at_call 45; refine (CallsIn.inRound _ (callsIn_wide.2 HEQ.out)).mono ?_; rintro e w' ⟨rfl, rfl⟩; clear HEQ)
        obtain ⟨x1, x2⟩ := xg_end z'.1 HMT.out hH HK2.out HF2.out HT2.out HS2.out (Below.refl _ _) (Kp.refl _ _) (y := zeroEn) (b := false) (er := 0) HK2.out.res (.inr ⟨by rw [HGP.out], rfl, rfl, by rw [HGP.out]; rfl⟩) (Row.nil _ _) (Row.nil _ _) (fun _ => HGP.out)
        refine ⟨by rw [← HJ.out, HZ1.out]; rfl, x1, ?_⟩
        rw [← HZ2.out] at x2
        exact x2
    · gi_wp2
      refine ⟨Two.below ((Below.refl (H + 8) W).alloc hsz _) (by omega), fun W₂ g2 hl => ?_⟩
      obtain ⟨k2, f2, t2, s2, -⟩ := ig_round hH HMT.out hi hsz g2 hl
      clear g2 hl
      obtain ⟨⟨p0, p1, p2, p3, p4, p5⟩, f0, f1, f2', f3, f4, f5⟩ := res_cells k2.res
      obtain ⟨r1, r2⟩ := setG_facts (e := .slice none 0 0) (f := .int .i64 0) (g := .bool false) (h := .slice none 0 0) (u := .bool false) (v := .int .i64 11) k2.res.1 k2.res.2.1 k2.res.2.2
      have HX := Lib.hid (xg_end z'.1 HMT.out hH k2 f2 t2 s2 (Below.refl _ _) r2 (y := zeroEn) (b := false) (er := 11) r1 (.inr ⟨by rw [getP_of hM]; rfl, rfl, rfl, by rw [getP_of hM]; rfl⟩) (Row.nil _ _) (Row.nil _ _) (fun e => by omega))
      clear k2 f2 t2 s2 r1 r2 hi
      gi_wp2
      obtain ⟨x1, x2⟩ := HX.out
      refine ⟨by rw [← HJ.out, hz']; rfl, x1, ?_⟩
      rw [← h2] at x2
      exact x2
end Go.Proofs.YtmgggddnfeojmaaGreat.GetX
