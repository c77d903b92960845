/-
  Walks: the law's first look. Walks: all that a nil table tells. Bytes, texts, numbers and entries that come in, as the walks want them. Walks: a table made of entries, by the law. Entries that come in, of a told bulk. What is looked for, as it comes in. TableWrites: walks of the law itself. TableCrash: walks of the law itself. Walks: a range over a table's entries that is left at its first. Memory: answers that are marked: rows of bytes, and pairs of such rows. Memory: entries whose bytes are marked.
-/
import Derived.Test.YtmgggddnfeojmaaGreatRows
import Derived.Deep.Slices
import Derived.OpenShut
import Derived.ChangeOld
import Derived.SizedLaws
import Derived.Test.YtmgggddnfeojmaaGreatJO01
import Derived.Test.YtmgggddnfeojmaaGreatJO09
import Derived.Test.YtmgggddnfeojmaaGreatJO24
set_option linter.unusedSimpArgs false
set_option linter.unusedVariables false
namespace Go.Proofs.YtmgggddnfeojmaaGreat
open Go.RowKit
open Go.Maps
def sT : ByteArray := ⟨#[116]⟩
theorem okT : okName sT = true := by decide +kernel
theorem fits_calm (n : Nat) (h : n ≤ 140737488355328) : Fits calmV n := ⟨by decide, fun x hx => (List.not_mem_nil hx).elim, fun x hx => (List.not_mem_nil hx).elim⟩
theorem fits_lone {s : ByteArray} {F : List Int} {y : Int} {n : Nat} (hs : s.size ≤ 140737488355328) (h : F.length + n ≤ 140737488355328) : Fits (loneV s F y) n := ⟨by show 1 * 48 ≤ _; omega, fun x hx => by rw [show (loneV s F y).fs = [(s, F, y)] from rfl, List.mem_singleton] at hx; subst hx; exact h, fun x hx => by rw [show (loneV s F y).fs = [(s, F, y)] from rfl, List.mem_singleton] at hx; subst hx; exact hs⟩
/-- A disk whose blocks are none of some. -/
def Clear (p : Pk) (g lo hi : Nat) : Prop := ∀ k, p.own g k → ¬ (lo ≤ k ∧ k < hi)
theorem Clear.rest {w w' : World} {g lo hi : Nat} {p p' : Pk} (h : Clear p g lo hi) (hd : Does (p.own g) (p'.own g) w w') (hw : hi ≤ w.heap.size) : Clear p' g lo hi ∧ ∀ k, lo ≤ k → k < hi → w'.heap[k]? = w.heap[k]? :=
  ⟨fun k hk q => (hd.grows k hk).elim (fun h' => h k h' q) (fun h' => by omega), fun k h1 h2 => hd.block k (by omega) (fun hk => h k hk ⟨h1, h2⟩)⟩
theorem write_three {B g : Nat} {p : Pk} {m m' : Vm} {r : Int} {z : Nat} {w : World} (h : PSt w B g p) (hv : p.vm = m) (ha : At3 z w) (hf : Fits m 1000) (hs : sumM m.fs + 1000 ≤ 4611686018427387904) (hw : writeV m sT L3 2 = (m', r)) :
    Calls Tryz.prog 12 #[.pointer (some ⟨g, 0, none⟩), .string sT, .slice (some ⟨z + 4, 0, none⟩) 3 3, .int .i64 2] w fun e w' => e = .returned (.int .i64 r) ∧ Rest w B g p m' w' := by
  have := write_any B g p m sT (some ⟨z + 4, 0, none⟩) (l3 z) 3 3 2 w h hv (by decide) rfl ha.lies.1 ha.lies.2 (fun q hq => by
    simp only [l3, List.mem_cons, List.mem_nil_iff, or_false] at hq
    rcases hq with rfl | rfl | rfl <;> exact ⟨by simp only; omega, by simp only; omega⟩) (by decide) (by decide) (by decide) 1000 (fun _ _ k h1 h2 => L3_file h1 h2) hf hs (by decide)
  rwa [l3_rd, hw] at this
theorem got_some {x : Er} {y : En} {b : Bool} {er : Int} (h : AnsG (some x, false) y b er) : y.rd = x ∧ b = true ∧ er = 0 := by
  rcases h with ⟨h1, h2, h3⟩ | ⟨h1, -⟩
  · injection h1 with h1
    injection h1 with h1
    exact ⟨h1.symm, h2, h3⟩
  · cases h1
set_option maxRecDepth 100000 in
set_option maxHeartbeats 4000000 in
theorem wakes_any (w : World) : Calls Tryz.prog 9 #[] w fun e w' => e = .returned (.bool true) ∧ Below w.heap.size w w' := by
  obtain ⟨tb, ht, hW⟩ := whole_file (l := L3) (size := 2) L3_ord (by decide) L3_byl (by decide) (by decide) (by decide)
  have hF9 := L3_file (k := 2) (by decide) (by decide)
  have W1 := write_calm (s := sT) (L := L3) (k := 2) okT (by decide) (by decide) (by decide) L3_ord
  have W2 := write_twice (s := sT) (L := L3) (k := 2) (F := fileE L3 2) (y := (fileE L3 2).length) okT (by decide) (by decide) (by decide) L3_ord
  have R1 := read_lone (s := sT) (fileE L3 2) (fileE L3 2).length okT
  obtain ⟨F, hF⟩ : ∃ F, fileE L3 2 = F := ⟨_, rfl⟩
  rw [hF] at ht hF9 W1 W2 R1
  have HT := Lib.hid ht
  have HW := Lib.hid hW
  have HF9 := Lib.hid hF9
  have HW1 := Lib.hid W1
  have HW2 := Lib.hid W2
  have HR1 := Lib.hid R1
  have e116 : Hid ((⟨#[116]⟩ : ByteArray) = sT) := Lib.hid rfl
  clear ht hW hF9 W1 W2 R1 hF
  go_enter Tryz.func9, Tryz.ntmps9
  go_upto_region 2 with (first
    | (go_at_call 11; refine (calm_any _).mono ?_; rintro e w1 ⟨rfl, hb⟩; have B1 := Lib.hid hb; clear hb)
    | (go_at_call 10; refine (new_calm w1).mono ?_; rintro e w2 ⟨g, p2, rfl, hps, hv, hb⟩; have E2 : Hid (PSt w2 w.heap.size g p2 ∧ p2.vm = calmV ∧ Below w.heap.size w w2) := Lib.hid ⟨hps.mono B1.out.size, hv, B1.out.trans (hb.mono B1.out.size)⟩; clear hps hv hb))
  have k1 := one_convN 98 w2 w2.heap.size rfl
  have k2 := one_convN 120 (w2.alloc (.cells #[.int .u8 98] 5 (1, 2))) (w2.heap.size + 1) (by simp)
  have k3 := one_convN 98 ((w2.alloc (.cells #[.int .u8 98] 5 (1, 2))).alloc (.cells #[.int .u8 120] 5 (1, 2))) (w2.heap.size + 1 + 1) (by simp)
  have k4 := one_convN 99 (((w2.alloc (.cells #[.int .u8 98] 5 (1, 2))).alloc (.cells #[.int .u8 120] 5 (1, 2))).alloc (.cells #[.int .u8 98] 5 (1, 2))) (w2.heap.size + 1 + 1 + 1) (by simp)
  go_upto_region 3 with fail
  clear k1 k2 k3 k4
  obtain ⟨z, hz⟩ : ∃ z, w2.heap.size = z := ⟨_, rfl⟩
  obtain ⟨hq, hs, hb⟩ := allocs_get [.cells #[.int .u8 98] 5 (1, 2), .cells #[.int .u8 120] 5 (1, 2), .cells #[.int .u8 98] 5 (1, 2), .cells #[.int .u8 99] 5 (1, 2), .cells #[.slice (some ⟨w2.heap.size, 0, none⟩) 1 1, .int .i64 5, .bool false, .slice (some ⟨w2.heap.size + 1, 0, none⟩) 1 1, .slice (some ⟨w2.heap.size + 1 + 1, 0, none⟩) 1 1, .int .i64 3, .bool false, .slice none 0 0, .slice (some ⟨w2.heap.size + 1 + 1 + 1, 0, none⟩) 1 1, .int .i64 4, .bool true, .slice none 0 0] 48] w2
  have q0 := hq 0 _ rfl
  have q1 := hq 1 _ rfl
  have q2 := hq 2 _ rfl
  have q3 := hq 3 _ rfl
  have q4 := hq 4 _ rfl
  simp only [List.foldl_cons, List.foldl_nil, List.length_cons, List.length_nil, Nat.reduceAdd, Nat.add_zero] at hs hb q0 q1 q2 q3 q4
  clear hq
  obtain ⟨w3, hw3⟩ : ∃ w3, (((((w2.alloc (.cells #[.int .u8 98] 5 (1, 2))).alloc (.cells #[.int .u8 120] 5 (1, 2))).alloc (.cells #[.int .u8 98] 5 (1, 2))).alloc (.cells #[.int .u8 99] 5 (1, 2))).alloc (.cells #[.slice (some ⟨w2.heap.size, 0, none⟩) 1 1, .int .i64 5, .bool false, .slice (some ⟨w2.heap.size + 1, 0, none⟩) 1 1, .slice (some ⟨w2.heap.size + 1 + 1, 0, none⟩) 1 1, .int .i64 3, .bool false, .slice none 0 0, .slice (some ⟨w2.heap.size + 1 + 1 + 1, 0, none⟩) 1 1, .int .i64 4, .bool true, .slice none 0 0] 48)) = w3 := ⟨_, rfl⟩
  rw [hw3] at q0 q1 q2 q3 q4 hs hb ⊢
  clear hw3
  have A3 : Hid (At3 z w3) := Lib.hid (by rw [hz] at q0 q1 q2 q3 q4; exact ⟨q0, q1, q2, q3, q4⟩)
  have E3 : Hid (PSt w3 w.heap.size g p2 ∧ p2.vm = calmV ∧ Below w.heap.size w w3 ∧ Clear p2 g z (z + 5) ∧ w3.heap.size = z + 5) := Lib.hid ⟨E2.out.1.kept hb, E2.out.2.1, E2.out.2.2.trans (hb.mono E2.out.2.2.size), fun k hk q => by have := (E2.out.1.owned k hk).2; omega, by rw [hs, hz]⟩
  rw [hz]
  rw [e116.out]
  clear q0 q1 q2 q3 q4 hs hb hz E2
  go_upto_region 5 with (first
    | (go_at_call 12; refine (write_three E3.out.1 E3.out.2.1 A3.out (fits_calm _ (by decide)) (by decide) HW1.out).mono ?_; rintro e w4 ⟨rfl, p4, s4, v4, d4⟩; obtain ⟨c4, k4⟩ := E3.out.2.2.2.1.rest d4 (Nat.le_of_eq E3.out.2.2.2.2.symm); have A4 := Lib.hid (A3.out.same k4); have E4 : Hid (PSt w4 w.heap.size g p4 ∧ p4.vm = loneV sT F F.length ∧ Below w.heap.size w w4 ∧ Clear p4 g z (z + 5) ∧ z + 5 ≤ w4.heap.size) := Lib.hid ⟨s4, v4, E3.out.2.2.1.trans (d4.below E3.out.2.2.1.size (fun k hk => (E3.out.1.owned k hk).1)), c4, by have := d4.size; have := E3.out.2.2.2.2; omega⟩; clear s4 v4 d4 c4 k4 A3 E3)
    | (go_at_call 12; refine (write_three E4.out.1 E4.out.2.1 A4.out (fits_lone (by decide) (by have := HF9.out; omega)) (by have := HF9.out; simp [loneV, sumM]; omega) HW2.out).mono ?_; rintro e w5 ⟨rfl, p5, s5, v5, d5⟩; have E5 : Hid (PSt w5 w.heap.size g p5 ∧ p5.vm = loneV sT F F.length ∧ Below w.heap.size w w5) := Lib.hid ⟨s5, v5, E4.out.2.2.1.trans (d5.below E4.out.2.2.1.size (fun k hk => (E4.out.1.owned k hk).1))⟩; clear s5 v5 d5 A4 E4)
    | (go_at_call 12; refine (write_any w.heap.size g p5 _ ⟨#[117]⟩ none [] 0 0 2 w5 E5.out.1 E5.out.2.1 (by decide) rfl (.inl rfl) (EIns.nil _) (fun q hq => (List.not_mem_nil hq).elim) (by decide) (by decide) (by decide) 0 (fun h => absurd rfl h) (fits_lone (by decide) (by have := HF9.out; omega)) (by have := HF9.out; simp [loneV, sumM]; omega) (by decide)).mono ?_; rw [show ers ([] : List En) = [] from rfl, write_none _ _ _ _ (by decide) (.inl rfl)]; rintro e w6 ⟨rfl, p6, s6, v6, d6⟩; have E6 : Hid (PSt w6 w.heap.size g p6 ∧ p6.vm = loneV sT F F.length ∧ Below w.heap.size w w6) := Lib.hid ⟨s6, v6, E5.out.2.2.trans (d6.below E5.out.2.2.size (fun k hk => (E5.out.1.owned k hk).1))⟩; clear s6 v6 d6 E5))
  have HOP := Lib.hid (open_any w.heap.size g p6 _ sT w6 E6.out.1 E6.out.2.1 (by decide) (fits_lone (by decide) (by have := HF9.out; omega)) (fun x hx => by rw [show (loneV sT F F.length).fs = [(sT, F, (F.length : Int))] from rfl, List.mem_singleton] at hx; subst hx; have := HF9.out; show F.length ≤ _; omega))
  rw [HR1.out] at HOP
  go_upto_region 8 with (go_at_call 17; refine HOP.out.mono ?_; rintro e w7 ⟨b7, h7⟩; obtain ⟨t, hts, rfl, hta, hcnt, hmb⟩ : ∃ t : Tm, t.tb = tb ∧ e = .returned (.tuple #[.pointer (some ⟨t.b, 0, none⟩), .int .i64 0]) ∧ TabAt w7 t ∧ t.cnt = 3 ∧ w6.heap.size ≤ t.mb := (by
    rcases h7 with ⟨h, -⟩ | ⟨-, h, -⟩ | ⟨-, t, h1, h2, h3, -, h5, h4⟩
    · exact absurd rfl h
    · rw [HT.out] at h; cases h
    · rw [HT.out] at h1
      injection h1 with h1
      exact ⟨t, h1.symm, h2, h3, by rw [h4, ← h1, HW.out.sum]; rfl, h5⟩); have E7 : Hid (t.tb = tb ∧ TabAt w7 t ∧ t.cnt = 3 ∧ Below w.heap.size w w7) := Lib.hid ⟨hts, hta, hcnt, E6.out.2.2.trans (b7.mono E6.out.2.2.size)⟩; have M7 : Hid (w.heap.size ≤ t.mb) := Lib.hid (Nat.le_trans E6.out.2.2.size hmb); clear hts hta hcnt b7 h7 hmb)
  have k5 := one_convN 98 w7 w7.heap.size rfl
  have HG : Hid (Calls Tryz.prog 23 #[.pointer (some ⟨t.b, 0, none⟩), .slice (some ⟨w7.heap.size, 0, none⟩) 1 1, .int .i64 4] (w7.alloc (.cells #[.int .u8 98] 5 (1, 2))) (GetE t [98] 4 (w7.alloc (.cells #[.int .u8 98] 5 (1, 2))))) := Lib.hid (get_any t ⟨some ⟨w7.heap.size, 0, none⟩, 1, [98]⟩ 4 _ (E7.out.2.1.kept (below_new _ _)) (one_at (heap_alloc_new w7 _) (by decide)) (by
    have h := HW.out.few
    rw [← E7.out.1] at h
    simp only [Tm.tb, List.length_map] at h
    have : L3.length = 3 := rfl
    omega))
  have HB8 := Lib.hid (below_new w7 (.cells #[.int .u8 98] 5 (1, 2)))
  go_upto_region 9 with (go_at_call 23; refine HG.out.mono ?_; rintro e w8 ⟨y, b, er, ha, rfl, -, -, ht8, hta8⟩; rw [E7.out.1, HW.out.get, L3_get] at ha; obtain ⟨hy, rfl, rfl⟩ := got_some ha; have HY : Hid (y.s = 3) := Lib.hid (congrArg (fun r : Er => r.2.1) hy); have T8 := Lib.hid ht8; have A8 := Lib.hid hta8; rw [En.val_eq]; clear ha ht8 hta8 hy)
  have HMB : Hid (Below w.heap.size w w8) := Lib.hid ((E7.out.2.2.2.trans (HB8.out.mono E7.out.2.2.2.size)).trans (T8.out.below M7.out (Nat.le_trans E7.out.2.2.2.size HB8.out.size)))
  obtain ⟨yn, hyn⟩ : ∃ q, y.k.l.length = q := ⟨_, rfl⟩
  obtain ⟨vn, hvn⟩ : ∃ q, y.v.l.length = q := ⟨_, rfl⟩
  obtain ⟨w9, hw9⟩ : ∃ w9, w8.alloc (.cells #[.slice y.k.a yn y.k.c, .int .i64 y.s, .bool y.d, .slice y.v.a vn y.v.c] 48) = w9 := ⟨_, rfl⟩
  have HC : Hid (Calls Tryz.prog 21 #[.pointer (some ⟨t.b, 0, none⟩)] w9 fun e w' => e = .returned (.int .i64 3) ∧ w' = w9) := Lib.hid (by
    have := count_any t w9 (A8.out.kept (hw9 ▸ below_new w8 _)).c
    rwa [E7.out.2.2.1] at this)
  have B9 : Hid (Below w.heap.size w w9) := Lib.hid (HMB.out.trans ((hw9 ▸ below_new w8 _ : Below w8.heap.size w8 w9).mono HMB.out.size))
  have x1 : w9.cell? ⟨w8.heap.size, 1, none⟩ = some (.int .i64 y.s) := by
    have := heap_alloc_new w8 (.cells #[.slice y.k.a yn y.k.c, .int .i64 y.s, .bool y.d, .slice y.v.a vn y.v.c] 48)
    rw [hw9] at this
    simp [World.cell?, this]
  have e3 : (y.s == 3) = true := by rw [HY.out]; rfl
  rw [hyn, hvn, hw9]
  clear hw9 hyn hvn k5
  go_wp2_with (go_at_call 21; refine HC.out.mono ?_; rintro e w' ⟨rfl, rfl⟩)
  go_ret
  exact ⟨rfl, B9.out⟩
end Go.Proofs.YtmgggddnfeojmaaGreat
namespace Go.Proofs.YtmgggddnfeojmaaGreat
open Go.RowKit Go.Shelf
attribute [local go_sem] Oper.semAt_some
/-- What stands while a nil table is asked; where it was left. -/
structure KN (H L : Nat) (w3 W : World) : Prop where
  kp : Kp (fun g => g < L ∧ ¬ (H ≤ g ∧ g < H + 3)) w3 W
  r0 : W.heap[H]? = some (.cells #[.slice none 0 0] 22 (0, 0))
  r1 : W.heap[H + 1]? = some (.cells #[.int .i64 0] 30 (0, 0))
  r2 : W.heap[H + 2]? = some (.cells #[.slice none 0 0] 22 (0, 0))
structure XN (H L : Nat) (w3 W : World) : Prop where
  kp : Kp (fun g => g < L ∧ ¬ (H ≤ g ∧ g < H + 3)) w3 W
  r0 : W.heap[H]? = some (.cells #[.slice none 0 0] 22 (0, 0))
  r1 : W.heap[H + 1]? = some (.cells #[.int .i64 1] 30 (0, 0))
section
variable {H L : Nat} {w3 W W' : World}
theorem KN.grow (h : KN H L w3 W) (hH : H + 3 ≤ L) (hz : L ≤ W.heap.size) {row : Option Nat} (hg : W.grownBy W' row) (hr : ∀ r, row = some r → L ≤ r) : KN H L w3 W' := by
  have hb : ∀ g, g < L → W'.heap[g]? = W.heap[g]? := fun g hl => hg.block g (by omega) (fun e => by have := hr g e.symm; omega)
  exact ⟨kp_step h.kp hg.os hg.tape hg.output hg.size (fun g q => hb g q.1), (hb _ (by omega)).trans h.r0, (hb _ (by omega)).trans h.r1, (hb _ (by omega)).trans h.r2⟩
theorem XN.grow (h : XN H L w3 W) (hH : H + 3 ≤ L) (hz : L ≤ W.heap.size) {row : Option Nat} (hg : W.grownBy W' row) (hr : ∀ r, row = some r → L ≤ r) : XN H L w3 W' := by
  have hb : ∀ g, g < L → W'.heap[g]? = W.heap[g]? := fun g hl => hg.block g (by omega) (fun e => by have := hr g e.symm; omega)
  exact ⟨kp_step h.kp hg.os hg.tape hg.output hg.size (fun g q => hb g q.1), (hb _ (by omega)).trans h.r0, (hb _ (by omega)).trans h.r1⟩
end
end Go.Proofs.YtmgggddnfeojmaaGreat
namespace Go.Proofs.YtmgggddnfeojmaaGreat
open Go.ChangeShapes Go.WideShapes Go.ChangeAt Go.RowKit
theorem in_row (w : World) (x : Addr) (l c : Nat) (zs : List Int) (hl : l ≤ c) (hm : c ≤ maxLen) (hz : zs.length = c) (hcell : ∀ i, i < zs.length → w.cell? (x.add i) = some (.int .u8 (zs.getD i 0))) (hwz : ∀ n ∈ zs, (Lit.int .u8 n).wf = true) : In w (some x) (zs.take l) l c := by
  refine ⟨by simp; omega, hl, by unfold maxLen at hm; omega, .inr ⟨x, rfl, fun j y hy => ?_⟩, fun y hy => ?_⟩
  · rw [List.getElem?_take] at hy
    split at hy
    · have hj := (List.getElem?_eq_some_iff.1 hy).1
      rw [hcell j hj, List.getD_eq_getElem?_getD, hy]
      rfl
    · cases hy
  · have := hwz y (List.mem_of_mem_take hy)
    simp [Lit.wf, IntKind.min, IntKind.max, IntKind.signed, IntKind.bits] at this
    omega
theorem bulk_one {H : Type} (d : DataW H) : 1 ≤ Rows.uptoBulk d := by
  cases d with
  | lit l => cases l <;> simp [Rows.uptoBulk]
  | nil => simp [Rows.uptoBulk]
  | ptr d => simp [Rows.uptoBulk]
  | slice elems spare => simp [Rows.uptoBulk]
  | agg parts => simp [Rows.uptoBulk]
  | iface t d => simp [Rows.uptoBulk]
  | map entries => simp [Rows.uptoBulk]
  | held h => simp [Rows.uptoBulk]
theorem bulk_in {H : Type} {d : DataW H} {l : List (DataW H)} (h : d ∈ l) : Rows.uptoBulk d ≤ Rows.uptoBulkAll l := by
  induction l with
  | nil => cases h
  | cons x r ih =>
    simp only [Rows.uptoBulkAll]
    rcases List.mem_cons.1 h with e | e
    · subst e
      omega
    · have := ih e
      omega
theorem bulk_length {H : Type} (l : List (DataW H)) : l.length ≤ Rows.uptoBulkAll l := by
  induction l with
  | nil => simp [Rows.uptoBulkAll]
  | cons x r ih =>
    have := bulk_one x
    simp only [Rows.uptoBulkAll, List.length_cons]
    omega
theorem list_of {α : Type} {P : Nat → α → Prop} : ∀ n : Nat, (∀ i, i < n → ∃ q, P i q) → ∃ l : List α, l.length = n ∧ ∀ i q, l[i]? = some q → P i q
  | 0, _ => ⟨[], rfl, fun i q h => by simp at h⟩
  | n + 1, h => by
    obtain ⟨l, hl, hp⟩ := list_of n (fun i hi => h i (by omega))
    obtain ⟨q, hq⟩ := h n (by omega)
    refine ⟨l ++ [q], by simp [hl], fun i p hi => ?_⟩
    rcases Nat.lt_or_ge i n with k | k
    · exact hp i p (by rwa [List.getElem?_append_left (by omega)] at hi)
    · have hlt := (List.getElem?_eq_some_iff.1 hi).1
      simp only [List.length_append, List.length_singleton] at hlt
      have e : i = n := by omega
      subst e
      rw [List.getElem?_append_right (by omega), hl] at hi
      simp at hi
      subst hi
      exact hq
theorem weights_all {H : Type} {P : Program} {e : TypeId} {l : List (DataW H)} {d : DataW H} (h : d ∈ l) : ∀ n ∈ d.weights P e, n ∈ DataW.weightsAll P e l := by
  induction l with
  | nil => cases h
  | cons x r ih =>
    intro n hn
    simp only [DataW.weightsAll, List.mem_append]
    rcases List.mem_cons.1 h with k | k
    · subst k
      exact .inl hn
    · exact .inr (ih k n hn)
theorem cells48 : Tryz.prog.cellsOf 48 = 4 := by kernel_rfl
theorem cells42 : Tryz.prog.cellsOf 42 = 1 := by kernel_rfl
theorem cells3 : Tryz.prog.cellsOf 3 = 1 := by kernel_rfl
theorem cells4 : Tryz.prog.cellsOf 4 = 1 := by kernel_rfl
theorem bytes8 : Tryz.prog.bytesOf 5 = 1 := by kernel_rfl
section
variable {H : Type} {enc : TypeId × Value → H} {W : World} {fuel : Nat} {cs : List Value} {x : DataW H × List MemPlace}
/-- Bytes, read. -/
theorem open_byts (h : DataW.trod enc Tryz.prog W 0 (fun _ => true) true fuel 42 cs = some x) :
    ∃ s : Sl, cs = [s.val] ∧ In W s.a s.l s.l.length s.c ∧ s.l.length + 1 ≤ Rows.uptoBulk x.1 ∧ ((∀ n ∈ x.1.weights Tryz.prog 42, n ≤ reachBytes) → s.l.length ≤ 140737488351232) := by
  rcases open_ints Tryz.underlying42 Tryz.underlying5 (by kernel_rfl) h with ⟨hc0, hx⟩ | ⟨y, l, d, zs, hc0, _, hl', hm', hz, hxx, hcell, hwz⟩
  · exact ⟨⟨none, 0, []⟩, hc0, in_nil W, bulk_one _, fun _ => by simp⟩
  · simp only [if_true] at hz
    have hin := in_row W y l d zs hl' hm' hz hcell hwz
    refine ⟨⟨some y, d, zs.take l⟩, ?_, hin.of_n, ?_, fun hw => ?_⟩
    · rw [hc0]
      show _ = [Value.slice (some y) (zs.take l).length d]
      rw [hin.len]
    · rw [hxx]
      have h2 := bulk_length (H := H) (lits .u8 (zs.take l))
      simp only [lits, List.length_map] at h2
      simp only [Rows.uptoBulk, lits]
      omega
    · have := hw (((lits (H := H) .u8 (zs.take l)).length + (lits (H := H) .u8 (zs.drop l)).length) * Tryz.prog.bytesOf 5) (by
        rw [hxx]
        simp only [DataW.weights, Tryz.underlying42]
        exact List.mem_cons_self)
      rw [bytes8] at this
      simp only [lits, List.length_map, reachBytes] at this
      show (zs.take l).length ≤ _
      omega
theorem open_num (h : DataW.trod enc Tryz.prog W 0 (fun _ => true) true fuel 3 cs = some x) : ∃ k : Int, cs = [.int .i64 k] ∧ -9223372036854775808 ≤ k ∧ k ≤ 9223372036854775807 := by
  obtain ⟨k, e3, e4, e5⟩ := DataW.trod_int Tryz.underlying3 h
  refine ⟨k, e3, ?_⟩
  simpa [Lit.wf, IntKind.min, IntKind.max, IntKind.signed, IntKind.bits] using e5
set_option maxRecDepth 100000 in
set_option maxRecDepth 100000 in
/-- An entry, read. -/
theorem open_entry (h : DataW.trod enc Tryz.prog W 0 (fun _ => true) true fuel 48 cs = some x) :
    ∃ q : En, cs = q.cells ∧ (In W q.k.a q.k.l q.k.l.length q.k.c ∧ In W q.v.a q.v.l q.v.l.length q.v.c) ∧ (-9223372036854775808 ≤ q.s ∧ q.s ≤ 9223372036854775807) ∧ q.k.l.length + q.v.l.length + 5 ≤ Rows.uptoBulk x.1 ∧ ((∀ n ∈ x.1.weights Tryz.prog 48, n ≤ reachBytes) → q.k.l.length ≤ 140737488351232 ∧ q.v.l.length ≤ 140737488351232) := by
  obtain ⟨xs, n, -, rfl, hlen, hxl, hf⟩ := DataW.trod_struct Tryz.underlying48 h
  rw [cells48] at hlen
  have h0 : DataW.trod enc Tryz.prog W 0 (fun _ => true) true n 42 ((cs.drop 0).take (Tryz.prog.cellsOf 42)) = xs[0]? := hf 0 _ rfl
  have h1 : DataW.trod enc Tryz.prog W 0 (fun _ => true) true n 3 ((cs.drop 1).take (Tryz.prog.cellsOf 3)) = xs[1]? := hf 1 _ rfl
  have h2 : DataW.trod enc Tryz.prog W 0 (fun _ => true) true n 4 ((cs.drop 2).take (Tryz.prog.cellsOf 4)) = xs[2]? := hf 2 _ rfl
  have h3 : DataW.trod enc Tryz.prog W 0 (fun _ => true) true n 42 ((cs.drop 3).take (Tryz.prog.cellsOf 42)) = xs[3]? := hf 3 _ rfl
  rw [cells42] at h0 h3
  rw [cells3] at h1
  rw [cells4] at h2
  match cs, hlen, xs, hxl with
  | [u, v, t, r], _, [y0, y1, y2, y3], _ =>
    obtain ⟨s, e1, e2, e3, e4⟩ := open_byts (h0.trans rfl)
    obtain ⟨k, g1, g2⟩ := open_num (h1.trans rfl)
    obtain ⟨b, b1, -⟩ := DataW.trod_bool Tryz.underlying4 (h2.trans rfl)
    obtain ⟨d, f1, f2, f3, f4⟩ := open_byts (h3.trans rfl)
    have a1 : u = s.val := by simpa using e1
    have a2 : v = .int .i64 k := by simpa using g1
    have a3 : t = .bool b := by simpa using b1
    have a4 : r = d.val := by simpa using f1
    subst a1
    subst a2
    subst a3
    subst a4
    refine ⟨⟨s, k, b, d⟩, rfl, ⟨e2, f2⟩, g2, ?_, fun hw => ⟨e4 (fun m hm => hw m ?_), f4 (fun m hm => hw m ?_)⟩⟩
    · have h4 := bulk_one y1.1
      have h5 := bulk_one y2.1
      simp only [Rows.uptoBulk, Rows.uptoBulkAll, List.map_cons, List.map_nil] at e3 f3 ⊢
      omega
    · simp only [DataW.weights, Tryz.underlying48]
      exact DataW.weights_mem_each (j := 0) (t := 42) rfl rfl m hm
    · simp only [DataW.weights, Tryz.underlying48]
      exact DataW.weights_mem_each (j := 3) (t := 42) rfl rfl m hm
theorem bulk_add {α : Type} (f : α → Nat) : ∀ (T : List α) (ds : List (DataW H)), T.length = ds.length → (∀ (i : Nat) (s : α) (d : DataW H), T[i]? = some s → ds[i]? = some d → f s + 1 ≤ Rows.uptoBulk d) → (T.map f).sum + T.length ≤ Rows.uptoBulkAll ds
  | [], [], _, _ => by simp [Rows.uptoBulkAll]
  | [], _ :: _, h, _ => by simp at h
  | _ :: _, [], h, _ => by simp at h
  | s :: T, d :: ds, h, hp => by
    have ih := bulk_add f T ds (by simpa using h) (fun i s d h1 h2 => hp (i + 1) s d (by simpa using h1) (by simpa using h2))
    have h0 := hp 0 s d rfl rfl
    simp only [List.map_cons, List.sum_cons, List.length_cons, Rows.uptoBulkAll] at ih ⊢
    omega
theorem flat_get {α : Type} (f : α → List Value) (k : Nat) (hk : ∀ a, (f a).length = k) (h0 : 0 < k) : ∀ (l : List α) (j : Nat) (u : Value), (l.flatMap f)[j]? = some u → ∃ a, l[j / k]? = some a ∧ (f a)[j % k]? = some u
  | [], j, u, h => by simp at h
  | a :: l, j, u, h => by
    rw [List.flatMap_cons] at h
    by_cases hj : j < k
    · rw [List.getElem?_append_left (by rw [hk]; omega)] at h
      exact ⟨a, by rw [Nat.div_eq_of_lt hj]; rfl, by rw [Nat.mod_eq_of_lt hj]; exact h⟩
    · rw [List.getElem?_append_right (by rw [hk]; omega), hk] at h
      obtain ⟨b, h1, h2⟩ := flat_get f k hk h0 l (j - k) u h
      refine ⟨b, ?_, ?_⟩
      · rw [Nat.div_eq_sub_div h0 (by omega)]
        simpa using h1
      · rw [Nat.mod_eq_sub_mod (by omega)]
        exact h2
/-- A slice of structs, read. -/
theorem open_rows {α : Type} {t e : TypeId} (f : α → List Value) (k : Nat) (hk : ∀ a, (f a).length = k) (h0 : 0 < k) (hc : Tryz.prog.cellsOf e = k) (ht : Tryz.prog.underlying t = some (.slice e)) (h : DataW.trod enc Tryz.prog W 0 (fun _ => true) true fuel t cs = some x) (A : Option Addr) (n c : Nat) (hcs : cs = [.slice A n c])
    (P : α → DataW H → Prop) (hP : ∀ m (cs' : List Value) (y : DataW H × List MemPlace), DataW.trod enc Tryz.prog W 0 (fun _ => true) true m e cs' = some y → (Rows.uptoBulk y.1 ≤ Rows.uptoBulk x.1) → (∀ z ∈ y.1.weights Tryz.prog e, z ∈ x.1.weights Tryz.prog t) → ∃ a, cs' = f a ∧ P a y.1) :
    ∃ l : List α, l.length = n ∧ (n ≤ c ∧ (c : Int) ≤ 9223372036854775807) ∧ Lies W A (l.flatMap f) ∧ ∃ ds : List (DataW H), l.length = ds.length ∧ (∀ (i : Nat) (a : α) (d : DataW H), l[i]? = some a → ds[i]? = some d → P a d) ∧ Rows.uptoBulkAll ds + 1 ≤ Rows.uptoBulk x.1 ∧ ((∀ z ∈ x.1.weights Tryz.prog t, z ≤ reachBytes) → n * Tryz.prog.bytesOf e ≤ reachBytes) := by
  rcases Go.Deep.open_slice ht h with ⟨h1, hx⟩ | ⟨a, len, cap, m, fu, D, Pl, h1, _, hl, hm, hmm, hx, hi⟩
  · rw [h1] at hcs
    injection hcs with e1
    injection e1 with e1 e2 e3
    subst e1 e2 e3
    exact ⟨[], rfl, ⟨Nat.le_refl _, by decide⟩, .inl rfl, [], rfl, fun i a d h => by simp at h, by rw [hx]; simp [Rows.uptoBulk, Rows.uptoBulkAll], fun _ => by simp⟩
  · rw [h1] at hcs
    injection hcs with e1
    injection e1 with e1 e2 e3
    subst e1 e2 e3
    simp only [if_true] at hmm
    subst hmm
    rw [hc] at hi
    have hx1 : x.1 = .slice ((List.range len).map D) ((List.range (m - len)).map fun j => D (len + j)) := by rw [hx]
    obtain ⟨l, hll, hq⟩ := list_of (P := fun i (q : α) => P q (D i) ∧ ∀ j u, (f q)[j]? = some u → W.cell? (a.add (i * k + j)) = some u) len (fun i hlt => by
      obtain ⟨cs', hc', ht'⟩ := hi i (by omega)
      obtain ⟨_, _, hat⟩ := World.cells?_some hc'
      have hmem : D i ∈ (List.range len).map D := List.mem_map_of_mem (List.mem_range.2 hlt)
      obtain ⟨q, e1, e2⟩ := hP _ _ _ ht' (by
        rw [hx1]
        have := bulk_in hmem
        simp only [Rows.uptoBulk]
        show Rows.uptoBulk (D i) ≤ _
        omega) (fun z hz => by
        rw [hx1]
        simp only [DataW.weights, ht]
        exact List.mem_cons_of_mem _ (List.mem_append.2 (.inl (weights_all hmem _ hz))))
      refine ⟨q, e2, fun j u hj => ?_⟩
      have hj3 : j < k := by
        have := (List.getElem?_eq_some_iff.1 hj).1
        rwa [hk] at this
      rw [← add_add, hat j hj3, e1]
      exact hj)
    refine ⟨l, hll, ⟨hl, by unfold maxLen at hm; omega⟩, .inr ⟨a, rfl, fun j u hj => ?_⟩, (List.range len).map D, by simp [hll], fun i q d h1 h2 => ?_, ?_, fun hw => ?_⟩
    · obtain ⟨q, e1, e2⟩ := flat_get f k hk h0 l j u hj
      have := (hq _ q e1).2 _ u e2
      rwa [show j / k * k + j % k = j by rw [Nat.mul_comm]; exact Nat.div_add_mod j k] at this
    · have hlt := (List.getElem?_eq_some_iff.1 h1).1
      rw [List.getElem?_map, List.getElem?_range (by omega)] at h2
      simp only [Option.map_some, Option.some.injEq] at h2
      rw [← h2]
      exact (hq i q h1).1
    · rw [hx1]
      simp only [Rows.uptoBulk]
      omega
    · have := hw ((((List.range len).map D).length + ((List.range (m - len)).map fun j => D (len + j)).length) * Tryz.prog.bytesOf e) (by
        rw [hx1]
        simp only [DataW.weights, ht]
        exact List.mem_cons_self)
      simp only [List.length_map, List.length_range] at this
      refine Nat.le_trans (Nat.mul_le_mul_right _ ?_) this
      omega
end
end Go.Proofs.YtmgggddnfeojmaaGreat
namespace Go.Proofs.YtmgggddnfeojmaaGreat
open Go.RowKit
open Go.Maps
/-- Entries that come in, of a told bulk. -/
structure LIn (w : World) (A : Option Addr) (l : List En) (n c : Nat) : Prop where
  len : l.length = n
  lies : Lies w A (evals l)
  ins : EIns w l
  fit : ∀ q ∈ l, EFit q
  cap : n ≤ c
  top : (c : Int) ≤ 9223372036854775807
  bulk : 5 * n + sizeE (ers l) ≤ 1048576
theorem LIn.kept {w w' : World} {A : Option Addr} {l : List En} {n c : Nat} (h : LIn w A l n c) (hb : Below w.heap.size w w') : LIn w' A l n c := ⟨h.len, h.lies.kept hb, h.ins.kept hb, h.fit, h.cap, h.top, h.bulk⟩
theorem size_mem {l : List Er} {x : Er} (h : x ∈ l) : x.1.length + x.2.2.2.length ≤ sizeE l := by
  induction l with
  | nil => cases h
  | cons a l ih =>
    rw [sizeE_cons]
    rcases List.mem_cons.1 h with rfl | h
    · omega
    · have := ih h
      omega
theorem LIn.small {w : World} {A : Option Addr} {l : List En} {n c : Nat} (h : LIn w A l n c) : n ≤ 209715 ∧ ∀ q ∈ l, q.k.l.length ≤ 1048576 ∧ q.v.l.length ≤ 1048576 := by
  have := h.bulk
  refine ⟨by omega, fun q hq => ?_⟩
  have := size_mem (l := ers l) (x := q.rd) (List.mem_map_of_mem hq)
  have e1 : q.rd.1 = q.k.l := rfl
  have e2 : q.rd.2.2.2 = q.v.l := rfl
  rw [e1, e2] at this
  omega
theorem fit_ers {l l' : List En} (he : ers l' = ers l) (h : ∀ q ∈ l, EFit q) : ∀ q ∈ l', EFit q := fun q hq => by
  have : q.rd ∈ ers l := he ▸ List.mem_map_of_mem hq
  obtain ⟨q', hq', e⟩ := List.mem_map.1 this
  exact fit_of (h q' hq') e.symm
theorem file_few {l : List Er} {k : Nat} (h : 5 * l.length + sizeE l ≤ 1048576) (ho : OrdL l) (hne : l ≠ []) (hB : ByL l) (h1 : 1 ≤ k) (h2 : k ≤ 1024) : (fileE l k).length ≤ 268435456 := by
  have := fileE_size ho hne hB h1 h2
  omega
theorem LIn.byl {w : World} {A : Option Addr} {l : List En} {n c : Nat} (h : LIn w A l n c) : ByL (ers l) := h.ins.byt
/-- A copy of them. -/
theorem LIn.copy {w w1 w' : World} {A : Option Addr} {l : List En} {n c : Nat} (h : LIn w A l n c) {e : Ending} (hc : ECopied w1 l e w') : ∃ (l' : List En) (A' : Option Addr) (c' : Nat), ers l' = ers l ∧ e = .returned (.slice A' n c') ∧ LIn w' A' l' n c' ∧ EMades w' w1.heap.size l' ∧ Erow w' w1.heap.size A' c' l' ∧ Below w1.heap.size w1 w' := by
  obtain ⟨l', A', c', h1, h2, h3, h4, h5⟩ := hc
  have hl : l'.length = n := by rw [← ers_len, h1, ers_len, h.len]
  have hcap := own_cap h4
  exact ⟨l', A', c', h1, by rw [h2, hl], ⟨hl, h4.lies, h3.ins (by rw [h1]; exact h.byl), fit_ers h1 h.fit, by rw [← hl]; exact hcap.1, hcap.2, by rw [h1]; exact h.bulk⟩, h3, h4, h5⟩
theorem copy_in {w : World} {A : Option Addr} {l : List En} {n c : Nat} (h : LIn w A l n c) : Calls Tryz.prog 13 #[.slice A n c] w (ECopied w l) :=
  refCopy_any A l n c w h.len h.lies h.ins (by have := h.small.1; omega) (fun q hq => by have := h.small.2 q hq; omega)
theorem write_in {B g : Nat} {p : Pk} {m : Vm} {s : ByteArray} {A : Option Addr} {l : List En} {n c : Nat} {b : Int} {w : World} (h : LIn w A l n c) (hp : PSt w B g p) (hv : p.vm = m) (hs : s.size ≤ 140737488355328) (hf : Fits m 268435456) (hsum : sumM m.fs ≤ 1099511627776) :
    Calls Tryz.prog 12 #[.pointer (some ⟨g, 0, none⟩), .string s, .slice A n c, .int .i64 b] w fun e w' => e = .returned (.int .i64 (writeV m s (ers l) b).2) ∧ Rest w B g p (writeV m s (ers l) b).1 w' :=
  write_any B g p m s A l n c b w hp hv hs h.len h.lies h.ins h.fit (by have := h.small.1; omega) h.cap h.top 268435456 (fun hne ho k h1 h2 => file_few (by have := h.bulk; rw [ers_len, h.len]; exact this) ho hne h.byl h1 h2) hf (by omega) (by decide)
theorem opened_whole {w w' : World} {F : List Int} {tb : Tb} {L : List Er} {e : Ending} (ht : tableP F = some tb) (hW : Whole L tb) (h : (((F, (0 : Int)).2 ≠ 0 ∧ e = .returned (.tuple #[.pointer none, .int .i64 ((F, (0 : Int)).2)])) ∨ ((F, (0 : Int)).2 = 0 ∧ tableP (F, (0 : Int)).1 = none ∧ e = .returned (.tuple #[.pointer none, .int .i64 11])) ∨ ((F, (0 : Int)).2 = 0 ∧ ∃ t : Tm, tableP (F, (0 : Int)).1 = some t.tb ∧ e = .returned (.tuple #[.pointer (some ⟨t.b, 0, none⟩), .int .i64 0]) ∧ TabAt w' t ∧ w.heap.size ≤ t.b ∧ w.heap.size ≤ t.mb ∧ t.cnt = (t.tb.rows.map Rw.count).sum))) :
    ∃ t : Tm, t.tb = tb ∧ e = .returned (.tuple #[.pointer (some ⟨t.b, 0, none⟩), .int .i64 0]) ∧ TabAt w' t ∧ t.cnt = (L.length : Nat) ∧ w.heap.size ≤ t.mb := by
  rcases h with ⟨h, -⟩ | ⟨-, h, -⟩ | ⟨-, t, h1, h2, h3, -, h5, h4⟩
  · exact absurd rfl h
  · simp only at h
    rw [ht] at h
    cases h
  · simp only at h1
    rw [ht] at h1
    injection h1 with h1
    exact ⟨t, h1.symm, h2, h3, by rw [h4, ← h1, hW.sum], h5⟩
end Go.Proofs.YtmgggddnfeojmaaGreat
namespace Go.Proofs.YtmgggddnfeojmaaGreat
open Go.ChangeShapes Go.WideShapes Go.ChangeAt Go.RowKit
section
variable {H : Type} {enc : TypeId × Value → H} {W : World} {fuel : Nat} {cs : List Value} {x : DataW H × List MemPlace}
theorem open_entries_up (h : DataW.trod enc Tryz.prog W 0 (fun _ => true) true fuel 22 cs = some x) (hb : Rows.uptoBulk x.1 ≤ 1048576) (A : Option Addr) (n c : Nat) (hcs : cs = [.slice A n c]) : ∃ l, LIn W A l n c := by
  obtain ⟨l, h1, h0, h2, ds, h3, h4, h5, -⟩ := open_rows (α := En) En.cells 4 (fun _ => rfl) (by omega) cells48 Tryz.underlying22 h A n c hcs (fun q d => (In W q.k.a q.k.l q.k.l.length q.k.c ∧ In W q.v.a q.v.l q.v.l.length q.v.c) ∧ EFit q ∧ q.k.l.length + q.v.l.length + 5 ≤ Rows.uptoBulk d) (fun m cs' y hy _ _ => by
    obtain ⟨q, e1, e2, e3, e4, _⟩ := open_entry hy
    exact ⟨q, e1, e2, e3, e4⟩)
  have hall : ∀ q ∈ l, (In W q.k.a q.k.l q.k.l.length q.k.c ∧ In W q.v.a q.v.l q.v.l.length q.v.c) ∧ EFit q := fun q hq => by
    obtain ⟨i, hi, e⟩ := List.mem_iff_getElem.1 hq
    have := h4 i q (ds[i]'(by omega)) (by rw [List.getElem?_eq_getElem hi, e]) (List.getElem?_eq_getElem (by omega))
    exact ⟨this.1, this.2.1⟩
  have hs := bulk_add (fun q : En => q.k.l.length + q.v.l.length + 4) l ds h3 (fun i q d a1 a2 => by have := (h4 i q d a1 a2).2.2; omega)
  have e : (l.map (fun q : En => q.k.l.length + q.v.l.length + 4)).sum = sizeE (ers l) + 4 * l.length := by
    clear h1 h2 h3 h4 hs hall
    induction l with
    | nil => rfl
    | cons q r ih =>
      rw [List.map_cons, List.sum_cons, ih, show ers (q :: r) = q.rd :: ers r from rfl, sizeE_cons, List.length_cons]
      show _ = q.k.l.length + q.v.l.length + _ + _
      omega
  rw [e] at hs
  exact ⟨l, h1, h2, fun q hq => (hall q hq).1, fun q hq => (hall q hq).2, h0.1, h0.2, by omega⟩
end
end Go.Proofs.YtmgggddnfeojmaaGreat
namespace Go.Proofs.YtmgggddnfeojmaaGreat
open Go.ChangeShapes Go.WideShapes Go.ChangeAt Go.RowKit
/-- What is looked for. -/
structure LookIn (w : World) (kx lx hx : Sl) (s : Int) : Prop where
  key : In w kx.a kx.l kx.l.length kx.c
  lo : In w lx.a lx.l lx.l.length lx.c
  hi : In w hx.a hx.l hx.l.length hx.c
  key9 : kx.l.length ≤ 1048576
  lo9 : lx.l.length ≤ 1048576
  hi9 : hx.l.length ≤ 1048576
  fit : -9223372036854775808 ≤ s ∧ s ≤ 9223372036854775807
theorem cells51 : Tryz.prog.cellsOf 51 = 4 := by kernel_rfl
section
variable {H : Type} {enc : TypeId × Value → H} {W : World} {fuel : Nat} {x : DataW H × List MemPlace}
set_option maxRecDepth 100000 in
theorem open_look_cs {cs : List Value} (h : DataW.trod enc Tryz.prog W 0 (fun _ => true) true fuel 51 cs = some x) (hb : Rows.uptoBulk x.1 ≤ 1048576) :
    ∃ (kx lx hx : Sl) (s : Int), cs = [kx.val, lx.val, hx.val, .int .i64 s] ∧ LookIn W kx lx hx s := by
  obtain ⟨xs, n, -, rfl, hlen, hxl, hf⟩ := DataW.trod_struct Tryz.underlying51 h
  rw [cells51] at hlen
  have h0 : DataW.trod enc Tryz.prog W 0 (fun _ => true) true n 42 ((cs.drop 0).take (Tryz.prog.cellsOf 42)) = xs[0]? := hf 0 _ rfl
  have h1 : DataW.trod enc Tryz.prog W 0 (fun _ => true) true n 42 ((cs.drop 1).take (Tryz.prog.cellsOf 42)) = xs[1]? := hf 1 _ rfl
  have h2 : DataW.trod enc Tryz.prog W 0 (fun _ => true) true n 42 ((cs.drop 2).take (Tryz.prog.cellsOf 42)) = xs[2]? := hf 2 _ rfl
  have h3 : DataW.trod enc Tryz.prog W 0 (fun _ => true) true n 3 ((cs.drop 3).take (Tryz.prog.cellsOf 3)) = xs[3]? := hf 3 _ rfl
  rw [cells42] at h0 h1 h2
  rw [cells3] at h3
  match cs, hlen, xs, hxl with
  | [u, v, t, r], _, [y0, y1, y2, y3], _ =>
    obtain ⟨s, e1, e2, e3, -⟩ := open_byts (h0.trans rfl)
    obtain ⟨d, f1, f2, f3, -⟩ := open_byts (h1.trans rfl)
    obtain ⟨m, m1, m2, m3, -⟩ := open_byts (h2.trans rfl)
    obtain ⟨k, g1, g2⟩ := open_num (h3.trans rfl)
    have a1 : u = s.val := by simpa using e1
    have a2 : v = d.val := by simpa using f1
    have a3 : t = m.val := by simpa using m1
    have a4 : r = .int .i64 k := by simpa using g1
    subst a1
    subst a2
    subst a3
    subst a4
    have h4 := bulk_one y3.1
    simp only [Rows.uptoBulk, Rows.uptoBulkAll, List.map_cons, List.map_nil] at hb
    exact ⟨s, d, m, k, rfl, e2, f2, m2, by omega, by omega, by omega, g2⟩
set_option maxRecDepth 100000 in
theorem open_look {v : Value} (h : DataW.trod enc Tryz.prog W 0 (fun _ => true) true fuel 51 v.cells.toList = some x) (hb : Rows.uptoBulk x.1 ≤ 1048576) {base : Nat} (hval : Value.okWide Tryz.prog W .any base 51 v) :
    ∃ (kx lx hx : Sl) (s : Int), v = Value.agg #[kx.val, lx.val, hx.val, .int .i64 s] ∧ LookIn W kx lx hx s := by
  obtain ⟨cs, rfl, -⟩ := okWide_struct Tryz.underlying51 hval
  obtain ⟨kx, lx, hx, s, e, h1⟩ := open_look_cs h hb
  refine ⟨kx, lx, hx, s, ?_, h1⟩
  have e2 : cs.toList = [kx.val, lx.val, hx.val, .int .i64 s] := by simpa [Value.cells] using e
  rw [show cs = cs.toList.toArray by simp, e2]
end
end Go.Proofs.YtmgggddnfeojmaaGreat
namespace Go.Proofs.YtmgggddnfeojmaaGreat
open Go.RowKit
open Go.Maps
theorem ordered_in {w : World} {A : Option Addr} {l : List En} {n c : Nat} (h : LIn w A l n c) : Calls Tryz.prog 14 #[.slice A n c] w fun e w' => e = .returned (.bool (decide (OrdL (ers l)))) ∧ Below w.heap.size w w' :=
  refOrdered_any A l n c w h.len h.lies h.ins (by have := h.small.1; omega) (fun q hq => by have := (h.small.2 q hq).1; omega)
/-- All of a whole table. -/
theorem all_whole {w w0 : World} {A : Option Addr} {l : List En} {n c : Nat} {t : Tm} (h : LIn w0 A l n c) (ht : TabAt w t) (hW : Whole (ers l) t.tb) (hg : ∀ x ∈ ers l, GoodE x) : Calls Tryz.prog 18 #[.pointer (some ⟨t.b, 0, none⟩), .slice none 0 0, .slice none 0 0] w fun e w' => ∃ (l' : List En) (A' : Option Addr) (c' : Nat), ers l' = ers l ∧ e = .returned (.tuple #[.slice A' n c', .int .i64 0]) ∧ Erow w' w.heap.size A' c' l' ∧ EMades w' w.heap.size l' ∧ Tw t.mb w w' ∧ TabW (fun g => SlB A' g ∨ EnB l' g) w' t := by
  have hr := hW.range [] []
  rw [rangeE_all hg] at hr
  have hfew := hW.few
  have hsm := h.small.1
  have hlen := h.len
  rw [ers_len] at hfew
  refine (all_any t none none [] [] 0 0 0 0 w ht (in_nil w) (in_nil w) (by decide) (by decide) (by simp only [Tm.tb, List.length_map] at hfew; omega) (by rw [hr]; simp only [ers_len]; omega)).mono ?_
  rintro e w' ⟨l', A', c', h1, rfl, h3⟩
  rw [hr] at h1 ⊢
  simp only at h1
  exact ⟨l', A', c', h1, by rw [show l'.length = n by rw [← ers_len, h1, ers_len, hlen]]; rfl, h3⟩
theorem bounds_of {t : Tm} {l : List En} {z : Nat} {x0 xz : En} (hW : Whole (ers l) t.tb) (h0 : l[0]? = some x0) (hz : l[z]? = some xz) (hl : l.length = z + 1) : ∃ r : Rm, t.R[0]? = some r ∧ r.k.l = x0.k.l ∧ t.K = xz.k.l := by
  obtain ⟨r', x, h1, h2, h3⟩ := hW.first
  have h1' : (t.R.map Rm.rd)[0]? = some r' := h1
  rw [List.getElem?_map] at h1'
  cases hr : t.R[0]? with
  | none => rw [hr] at h1'; cases h1'
  | some r =>
    rw [hr] at h1'
    injection h1' with h1'
    rw [ers_get h0] at h2
    injection h2 with h2
    refine ⟨r, rfl, ?_, ?_⟩
    · rw [← h1', ← h2] at h3
      exact h3
    · exact hW.last xz.rd (by rw [ers_len, hl, Nat.add_sub_cancel]; exact ers_get hz)
end Go.Proofs.YtmgggddnfeojmaaGreat
namespace Go.Proofs.YtmgggddnfeojmaaGreat
open Go.RowKit
open Go.Maps
/-- A plan that comes in. -/
structure PlIn (w : World) (ops room : Int) (A : Option Addr) (keep : List Int) (n c : Nat) : Prop where
  len : keep.length = n
  ints : Ints w A keep
  ki : ∀ z ∈ keep, -9223372036854775808 ≤ z ∧ z ≤ 9223372036854775807
  ops : -9223372036854775808 ≤ ops ∧ ops ≤ 9223372036854775807
  room : -9223372036854775808 ≤ room ∧ room ≤ 9223372036854775807
  few : n * 8 ≤ 140737488351232
theorem PlIn.kept {w w' : World} {ops room : Int} {A : Option Addr} {keep : List Int} {n c : Nat} (h : PlIn w ops room A keep n c) (hb : Below w.heap.size w w') : PlIn w' ops room A keep n c := ⟨h.len, Lies.kept h.ints hb, h.ki, h.ops, h.room, h.few⟩
end Go.Proofs.YtmgggddnfeojmaaGreat
namespace Go.Proofs.YtmgggddnfeojmaaGreat
open Go.RowKit Go.Shelf
attribute [local go_sem] Oper.semAt_some
/-- The loop's own two blocks. -/
def ClL (L : Nat) : World → Nat → Prop := fun _ g => g = L ∨ g = L + 1
/-- All is as it was, but for what the table has read. -/
def IO (L mb : Nat) (w3 V W : World) : Prop := Kp (fun g => g < L ∧ g ≠ mb) w3 W ∧ Fr (ClL L) V W
theorem own_io {L mb : Nat} {w3 : World} (hz : w3.heap.size = L) : OwnAt L (IO L mb w3) := fun V W W' row ⟨h1, h2⟩ hg hr => by
  have hs := h1.size
  refine ⟨⟨hg.os.trans h1.os, hg.tape.trans h1.tape, hg.output.trans h1.output, Nat.le_trans h1.size hg.size, fun g k => ?_⟩, fun g o ho hn => ?_⟩
  · exact (hg.block g (by omega) (fun e => by have := (hr g e.symm).1; omega)).trans (h1.block g k)
  · obtain ⟨k1, k2⟩ := h2 g o ho hn
    exact ⟨grown_obj k1 hg (fun e => by have := (hr g e.symm).1; exact hn (by unfold ClL; omega)), hn⟩
/-- A round that leaves. -/
def OffO (V : World) (args : Array Value) (V' : World) (_W : World) : Prop := V' = V ∧ ∃ y : En, args = #[y.val, .int .i64 0]
theorem once_goer {N H L : Nat} {t : Tm} {w3 : World} {lo hi : Sl} (hHL : H + 3 ≤ L) (hz : w3.heap.size = L) (hm : t.mb < H) (hf : (rangeP t.tb lo.l hi.l).2 = false)
    (b3 : w3.heap[H]? = some (.cells #[.pointer (some ⟨t.b, 0, none⟩)] 37 (0, 0))) (b4 : w3.heap[H + 1]? = some (.cells #[lo.val] 42 (0, 0))) (b5 : w3.heap[H + 2]? = some (.cells #[hi.val] 42 (0, 0)))
    (rl : Row w3 H lo.a lo.c lo.l) (rh : Row w3 H hi.a hi.c hi.l) (yl : Byt lo.l) (yh : Byt hi.l)
    (R : World → Prop) (R' : World → World → Prop)
    (hR : ∀ W W', R W → Two L W W' → R W') (hRs : ∀ W, R W → L + 2 ≤ W.heap.size ∧ (∃ X, W.heap[L + 1]? = some (.loop X)) ∧ ∃ d, W.heap[L]? = some (.deferred d))
    (hR' : ∀ s W W', R' s W → Two L W W' → R' s W') (hRs' : ∀ s W, R' s W → L + 2 ≤ W.heap.size ∧ (∃ X, W.heap[L + 1]? = some (.loop X)) ∧ ∃ d, W.heap[L]? = some (.deferred d))
    (hno : ∀ s args s' W, OffO s args s' W → IO L t.mb w3 s W → R W → YieldAt Fence.wide N Tryz.prog (L + 1) args W fun e W' => e = .returned (.bool false) ∧ IO L t.mb w3 s' W' ∧ R' s' W') :
    Goer t lo hi H (H + 1) (H + 2) (L + 2) N (L + 1) (fun _ => true) (fun _ W => Kp (fun g => g < L ∧ g ≠ t.mb) w3 W ∧ R W) (fun _ W => Kp (fun g => g < L ∧ g ≠ t.mb) w3 W ∧ ∃ s, R' s W) (ClL L) where
  box := fun j W ⟨h, _⟩ => by
    have e3 := (h.block H ⟨by omega, by omega⟩).trans b3
    have e4 := (h.block (H + 1) ⟨by omega, by omega⟩).trans b4
    have e5 := (h.block (H + 2) ⟨by omega, by omega⟩).trans b5
    have hk : ∀ {A : Option Addr} {c : Nat} {X : List Int}, Row w3 H A c X → Row W H A c X := fun r => own_kp r h (fun ad ha => by have := own_in r ad ha; exact ⟨by omega, by omega⟩)
    exact ⟨by simp [World.cell?, e3], ⟨by simp [World.cell?, e4], (hk rl).in_ yl⟩, by simp [World.cell?, e5], (hk rh).in_ yh⟩
  own := fun j W ⟨h, r⟩ => by
    have hs := (hRs W r).1
    refine ⟨fun g q => ?_, fun q => ?_, fun q => ?_⟩
    · unfold ClL at q; omega
    · unfold ClL at q; omega
    · unfold ClL at q; omega
  stay := fun j W W' ⟨h, r⟩ hm' ht => by
    have hs := h.size
    obtain ⟨-, ⟨X, e1⟩, d, e2⟩ := hRs W r
    exact ⟨⟨⟨ht.os.trans h.os, ht.tape.trans h.tape, ht.output.trans h.output, Nat.le_trans h.size ht.size, fun g k => (ht.block g ⟨by omega, k.2⟩).trans (h.block g k)⟩, hR W W' r ⟨(ht.obj e2 (by omega)).trans e2.symm, (ht.obj e1 (by omega)).trans e1.symm⟩⟩, fun _ q => q⟩
  grow := fun j W W' row ⟨h, r⟩ hg hr => by
    have hs := h.size
    obtain ⟨-, ⟨X, e1⟩, d, e2⟩ := hRs W r
    exact ⟨⟨⟨hg.os.trans h.os, hg.tape.trans h.tape, hg.output.trans h.output, Nat.le_trans h.size hg.size, fun g k => (hg.block g (by omega) (fun e => by have := (hr g e.symm).1; omega)).trans (h.block g k)⟩, hR W W' r ⟨(grown_obj e2 hg (fun e => by have := (hr _ e.symm).1; omega)).trans e2.symm, (grown_obj e1 hg (fun e => by have := (hr _ e.symm).1; omega)).trans e1.symm⟩⟩, fun _ q => q⟩
  growx := fun j W W' row ⟨h, s, r⟩ hg hr => by
    have hs := h.size
    obtain ⟨-, ⟨X, e1⟩, d, e2⟩ := hRs' _ W r
    exact ⟨⟨⟨hg.os.trans h.os, hg.tape.trans h.tape, hg.output.trans h.output, Nat.le_trans h.size hg.size, fun g k => (hg.block g (by omega) (fun e => by have := (hr g e.symm).1; omega)).trans (h.block g k)⟩, s, hR' _ W W' r ⟨(grown_obj e2 hg (fun e => by have := (hr _ e.symm).1; omega)).trans e2.symm, (grown_obj e1 hg (fun e => by have := (hr _ e.symm).1; omega)).trans e1.symm⟩⟩, fun _ q => q⟩
  yes := fun j W0 W y hM hst => by cases hst
  no := fun j W0 W y hM hst ⟨k0, r0⟩ hb ⟨k, r⟩ r1 r2 hF => by
    refine (hno W0 _ W0 W ⟨rfl, y, rfl⟩ ⟨k, Fr.below hb (fun _ q => q)⟩ r).mono ?_
    rintro e W' ⟨rfl, ⟨q1, q2⟩, q3⟩
    exact ⟨rfl, ⟨q1, _, q3⟩, q2⟩
  bad := fun W hb => by rw [hf] at hb; cases hb
set_option maxRecDepth 100000 in
set_option maxHeartbeats 8000000 in
theorem once_any {a : Act} {Q : Exit → Act → World → Prop} {t : Tm} {H : Nat} {w3 : World} {lo hi : Sl} {M : List Er} (ha : a.eval (.tmp 196) = .func (.func 52) #[] #[.pointer (some ⟨H, 0, none⟩), .pointer (some ⟨H + 1, 0, none⟩), .pointer (some ⟨H + 2, 0, none⟩)])
    (h3 : w3.heap[H]? = some (.cells #[.pointer (some ⟨t.b, 0, none⟩)] 37 (0, 0))) (e1 : w3.heap[H + 1]? = some (.cells #[lo.val] 42 (0, 0))) (e2 : w3.heap[H + 2]? = some (.cells #[hi.val] 42 (0, 0)))
    (rl : Row w3 H lo.a lo.c lo.l) (rh : Row w3 H hi.a hi.c hi.l) (yl : Byt lo.l) (yh : Byt hi.l) (hT : TabAt w3 t) (hm : t.mb < H) (hr : rangeP t.tb lo.l hi.l = (M, false)) (hM : M ≠ []) (hrl : t.R.length ≤ 2305843009213693952)
    (hQ : ∀ W, Tw t.mb w3 W → TabAt W t → W.heap[w3.heap.size]? = some (.deferred (some [])) → Q (.exit 14) { a with defers := { target := .collected w3.heap.size, args := #[] } :: a.defers } W) :
    (Code.rangeFunc (.tmp 196) #[197, 198] .skip (.block 15 (.exit 14))).wpIn Fence.wide 12 Tryz.prog Q a w3 := by
  obtain ⟨L, hL⟩ : ∃ L, w3.heap.size = L := ⟨_, rfl⟩
  have hHL : H + 3 ≤ L := by
    have := (Array.getElem?_eq_some_iff.1 e2).1
    omega
  have hI0 : IO L t.mb w3 w3 w3 := ⟨Kp.refl _ _, Fr.refl _ _⟩
  have hOI : OwnAt w3.heap.size (IO L t.mb w3) := by rw [hL]; exact own_io hL
  have hno : ¬ ClL L w3 t.mb := by unfold ClL; omega
  have hT3 : TabW (ClL L w3) w3 t := hT.w (fun g hg q => by unfold ClL at q; omega)
  refine range_toldL (σ := World) (gf := 52) (lb := #[.pointer (some ⟨H, 0, none⟩), .pointer (some ⟨H + 1, 0, none⟩), .pointer (some ⟨H + 2, 0, none⟩)]) ha (enters_of Tryz.func52 (by kernel_rfl) rfl)
    (IO L t.mb w3) (IO L t.mb w3) (fun _ => .exit 14) hOI hOI (fun _ _ _ _ => False) OffO w3 hI0
    (fun _ => False) (fun V => TabW (ClL L V) V t) ?size ?on ?off ?iter ?done ?left
  case size =>
    rintro s args s' W (h | ⟨-, y, rfl⟩)
    · exact h.elim
    · rfl
  case on => intro s args s' W h; exact h.elim
  case iter =>
    intro R R' hR hRs hyes hno' hR' hRs' hJ W hi' hr'
    rw [hL] at hR hRs hyes hno' hR' hRs' ⊢
    have hG := once_goer (N := 8) hHL hL hm (by rw [hr]) h3 e1 e2 rl rh yl yh R R' hR hRs hR' hRs' (fun s args s' W ho hi hr => YieldAt.any (hno' s args s' W ho hi hr))
    have hT0 : TabW (ClL L W) W t := hT3.fr hi'.2 hno
    refine (entries_iter 8 (L + 1) t lo hi H (H + 1) (H + 2) (L + 2) _ _ _ _ hG hrl W ⟨⟨hi'.1, hr'⟩, hT0⟩ (hRs W hr').1 (by have := (hRs W hr').1; omega)).mono ?_
    rintro e W' ⟨hv, hq, hT'⟩
    refine ⟨hv, ?_⟩
    rcases hq with ⟨q1, q2, q3, q4⟩ | ⟨s, -, q3, s', q4⟩
    · exfalso
      rw [hr] at q2
      have := q2 0 (List.length_pos_iff.2 hM)
      cases this
    · exact .inr ⟨W', hT', ⟨q3, Fr.refl _ _⟩, hJ _ _ _ rfl q4⟩
  case done => intro s W h; exact h.elim
  case left =>
    rintro V W hV ⟨hi1, hi2⟩ hK
    rw [hL] at hK ⊢
    have hTW : TabW (ClL L W) W t := TabW.fr hV hi2 (by unfold ClL; omega)
    have hs := hi1.size
    have := hQ W ⟨hi1.os, hi1.tape, hi1.output, hi1.size, fun g hg => hi1.block g ⟨by omega, hg.2⟩⟩ hTW.at_ (by rw [hL]; exact hK)
    rw [hL] at this
    gi_wp2
    exact this
  case off =>
    rintro V args s' W ⟨rfl, y, rfl⟩ ⟨hk, hf⟩ hsz
    rw [hL] at hsz
    rw [En.val_eq]
    unfold RoundOf
    rw [hL]
    gi_wp2
    refine ⟨⟨rfl, rfl⟩, fun W₂ g2 hl => ?_⟩
    have hI := own_io hL s' W W₂ _ ⟨hk, hf⟩ g2 (fun r e => by injection e with e; subst e; exact ⟨.inr rfl, hl⟩)
    gi_wp2
    exact ⟨rfl, ⟨rfl, rfl⟩, hI⟩
end Go.Proofs.YtmgggddnfeojmaaGreat
namespace Go.Proofs.YtmgggddnfeojmaaGreat
open Go.RowKit
/-- Bytes that may be marked, in blocks from B to E. -/
def Spot (B E : Nat) (w : World) (A : Option Addr) (z : Nat) : Prop := z = 0 ∨ ∃ g cur, A = some ⟨g, 0, none⟩ ∧ B ≤ g ∧ g < E ∧ w.heap[g]? = some (.cells cur 5 (0, 0)) ∧ z ≤ cur.size ∧ ∀ j, j < z → ∃ x, cur[j]? = some (.int .u8 x)
theorem Row.spot {B : Nat} {w : World} {A : Option Addr} {c : Nat} {L : List Int} (h : Row w B A c L) : Spot B w.heap.size w A L.length := by
  rcases h.2 with ⟨_, h0⟩ | ⟨g, cap, cur, e, h1, h2, h3, h4, h5, h6⟩
  · exact .inl h0
  · injection e with e1 e2 e3
    subst e1
    refine .inr ⟨g, cur, rfl, h1, (Array.getElem?_eq_some_iff.1 h2).1, h2, by omega, fun j hj => ?_⟩
    have h7 : (vals L)[j]? = some (.int .u8 L[j]) := vals_of (List.getElem?_eq_getElem hj)
    rw [← h6, List.getElem?_take] at h7
    split at h7
    · exact ⟨L[j], by rw [← h7]; simp⟩
    · cases h7
theorem Spot.kept {B E F : Nat} {w w' : World} {A : Option Addr} {z : Nat} (h : Spot B E w A z) (hb : Below F w w') (hF : E ≤ F) : Spot B E w' A z := by
  rcases h with h | ⟨g, cur, e, h1, h2, h3, h4⟩
  · exact .inl h
  · exact .inr ⟨g, cur, e, h1, h2, by rw [hb.block g (by omega), h3], h4⟩
theorem Spot.mono {B B' E E' : Nat} {w : World} {A : Option Addr} {z : Nat} (h : Spot B E w A z) (hB : B' ≤ B) (hE : E ≤ E') : Spot B' E' w A z := by
  rcases h with h | ⟨g, cur, e, h1, h2, h3⟩
  · exact .inl h
  · exact .inr ⟨g, cur, e, by omega, by omega, h3⟩
theorem Spot.set {B E : Nat} {w : World} {A : Option Addr} {z g k : Nat} {y : Int} {cur : Array Value} (h : Spot B E w A z) (_hg : w.heap[g]? = some (.cells cur 5 (0, 0))) : Spot B E (w.setCell ⟨g, k, none⟩ (.int .u8 y)) A z := by
  rcases h with h | ⟨g', cur', e, h1, h2, h3, h4, h5⟩
  · exact .inl h
  · by_cases hgg : g' = g
    · subst hgg
      refine .inr ⟨g', cur'.setIfInBounds k (.int .u8 y), e, h1, h2, ?_, by simpa using h4, fun j hj => ?_⟩
      · simp [World.setCell, Array.getElem?_modify, h3]
      · obtain ⟨x, hx⟩ := h5 j hj
        by_cases hjk : k = j
        · subst hjk
          exact ⟨y, by rw [Array.getElem?_setIfInBounds_self_of_lt (by omega)]⟩
        · exact ⟨x, by rw [Array.getElem?_setIfInBounds_ne hjk, hx]⟩
    · refine .inr ⟨g', cur', e, h1, h2, ?_, h4, h5⟩
      rw [Below.heap_setCell w ⟨g, k, none⟩ _ g' hgg, h3]
/-- While a row and pairs are marked, in blocks from S to E: the pairs stand, their bytes are bytes, all else is as it was. -/
structure Mq (S E : Nat) (w0 : World) (A : Option Addr) (c : Nat) (T : List Bp) (X : Option Addr) (z : Nat) (w : World) : Prop where
  row : Prow w S A c T
  xs : Spot S E w X z
  spots : ∀ q ∈ T, Spot S E w q.k.a q.k.l.length ∧ Spot S E w q.v.a q.v.l.length
  kp : Kp (fun b => b < S ∨ E ≤ b) w0 w
theorem Mq.mark {S E : Nat} {w0 w : World} {A X A' : Option Addr} {c z z' k : Nat} {T : List Bp} (h : Mq S E w0 A c T X z w) (hs : Spot S E w A' z') (hk : k < z') :
    ∃ g x, A' = some ⟨g, 0, none⟩ ∧ w.cell? ⟨g, k, none⟩ = some (.int .u8 x) ∧ w.frozen? ⟨g, k, none⟩ = false ∧ ∀ y, Mq S E w0 A c T X z (w.setCell ⟨g, k, none⟩ (.int .u8 y)) := by
  obtain ⟨g, cur, e, h1, h2, h3, h4, h5⟩ := hs.resolve_left (by omega)
  obtain ⟨x, hx⟩ := h5 k hk
  refine ⟨g, x, e, by simp [World.cell?, h3, hx], by simp [World.frozen?, h3], fun y => ⟨?_, h.xs.set h3, fun q hq => ⟨(h.spots q hq).1.set h3, (h.spots q hq).2.set h3⟩, h.kp.set g k _ (fun hn => by omega)⟩⟩
  refine ⟨h.row.1, ?_⟩
  rcases h.row.2 with hn | ⟨g', cap, cur', e1, k1, k2, k3⟩
  · exact .inl hn
  · refine .inr ⟨g', cap, cur', e1, k1, ?_, k3⟩
    rw [Below.heap_setCell w ⟨g, k, none⟩ _ g' ?_, k2]
    intro e
    have e' : g' = g := e
    subst e'
    rw [h3] at k2
    injection k2 with k2
    injection k2 with _ k2
    exact absurd k2 (by decide)
theorem Mq.drew {S E : Nat} {w0 w : World} {A X : Option Addr} {c z : Nat} {T : List Bp} (h : Mq S E w0 A c T X z w) : Mq S E w0 A c T X z w.drew := ⟨h.row, h.xs, h.spots, ⟨h.kp.os, h.kp.tape, h.kp.output, h.kp.size, h.kp.block⟩⟩
end Go.Proofs.YtmgggddnfeojmaaGreat
namespace Go.Proofs.YtmgggddnfeojmaaGreat
open Go.RowKit
/-- Bytes that may be marked, in blocks of Z. -/
def SpotZ (Z : Nat → Prop) (w : World) (A : Option Addr) (z : Nat) : Prop := z = 0 ∨ ∃ g cur, A = some ⟨g, 0, none⟩ ∧ Z g ∧ w.heap[g]? = some (.cells cur 5 (0, 0)) ∧ z ≤ cur.size ∧ ∀ j, j < z → ∃ x, cur[j]? = some (.int .u8 x)
theorem Row.spotZ {Z : Nat → Prop} {B : Nat} {w : World} {A : Option Addr} {c : Nat} {L : List Int} (h : Row w B A c L) (hz : ∀ g, SlB A g → Z g) : SpotZ Z w A L.length := by
  rcases h.spot with h | ⟨g, cur, e, h1, h2, h3, h4⟩
  · exact .inl h
  · exact .inr ⟨g, cur, e, hz g ⟨_, e, rfl⟩, h3, h4⟩
theorem SpotZ.set {Z : Nat → Prop} {w : World} {A : Option Addr} {z g k : Nat} {y : Int} {cur : Array Value} (h : SpotZ Z w A z) (_hg : w.heap[g]? = some (.cells cur 5 (0, 0))) : SpotZ Z (w.setCell ⟨g, k, none⟩ (.int .u8 y)) A z := by
  rcases h with h | ⟨g', cur', e, h1, h3, h4, h5⟩
  · exact .inl h
  · by_cases hgg : g' = g
    · subst hgg
      refine .inr ⟨g', cur'.setIfInBounds k (.int .u8 y), e, h1, ?_, by simpa using h4, fun j hj => ?_⟩
      · simp [World.setCell, Array.getElem?_modify, h3]
      · obtain ⟨x, hx⟩ := h5 j hj
        by_cases hjk : k = j
        · subst hjk
          exact ⟨y, by rw [Array.getElem?_setIfInBounds_self_of_lt (by omega)]⟩
        · exact ⟨x, by rw [Array.getElem?_setIfInBounds_ne hjk, hx]⟩
    · refine .inr ⟨g', cur', e, h1, ?_, h4, h5⟩
      rw [Below.heap_setCell w ⟨g, k, none⟩ _ g' hgg, h3]
/-- While entries are marked: their row stands, their bytes are bytes, all else is as it was. -/
structure Me (Z : Nat → Prop) (w0 : World) (A : Option Addr) (T : List En) (w : World) : Prop where
  row : Lies w A (evals T)
  gap : ∀ ad, A = some ad → ∃ cs, w.heap[ad.block]? = some (.cells cs 48 (0, 0))
  spots : ∀ q ∈ T, SpotZ Z w q.k.a q.k.l.length ∧ SpotZ Z w q.v.a q.v.l.length
  kp : Kp (fun b => ¬ Z b) w0 w
theorem Me.mark {Z : Nat → Prop} {w0 w : World} {A A' : Option Addr} {z' k : Nat} {T : List En} (h : Me Z w0 A T w) (hs : SpotZ Z w A' z') (hk : k < z') :
    ∃ g x, A' = some ⟨g, 0, none⟩ ∧ w.cell? ⟨g, k, none⟩ = some (.int .u8 x) ∧ w.frozen? ⟨g, k, none⟩ = false ∧ ∀ y, Me Z w0 A T (w.setCell ⟨g, k, none⟩ (.int .u8 y)) := by
  obtain ⟨g, cur, e, h1, h3, h4, h5⟩ := hs.resolve_left (by omega)
  obtain ⟨x, hx⟩ := h5 k hk
  have hne : ∀ ad, A = some ad → ad.block ≠ g := fun ad ha e => by
    obtain ⟨cs, hc⟩ := h.gap ad ha
    rw [e, h3] at hc
    injection hc with hc
    injection hc with _ hc
    exact absurd hc (by decide)
  refine ⟨g, x, e, by simp [World.cell?, h3, hx], by simp [World.frozen?, h3], fun y => ⟨?_, fun ad ha => ?_, fun q hq => ⟨(h.spots q hq).1.set h3, (h.spots q hq).2.set h3⟩, h.kp.set g k _ (fun hn => hn h1)⟩⟩
  · rcases h.row with h | ⟨ad, ha, h⟩
    · exact .inl h
    · refine .inr ⟨ad, ha, fun j u hu => ?_⟩
      rw [cell_far (fun e => hne ad ha (by rw [← e]; exact (add_block ad j).symm))]
      exact h j u hu
  · obtain ⟨cs, hc⟩ := h.gap ad ha
    exact ⟨cs, by rw [Below.heap_setCell w ⟨g, k, none⟩ _ ad.block (hne ad ha), hc]⟩
theorem Me.drew {Z : Nat → Prop} {w0 w : World} {A : Option Addr} {T : List En} (h : Me Z w0 A T w) : Me Z w0 A T w.drew := ⟨h.row, h.gap, h.spots, ⟨h.kp.os, h.kp.tape, h.kp.output, h.kp.size, h.kp.block⟩⟩
theorem erow_gap {w : World} {B c : Nat} {A : Option Addr} {T : List En} (h : Erow w B A c T) : ∀ ad, A = some ad → ∃ cs, w.heap[ad.block]? = some (.cells cs 48 (0, 0)) := fun ad ha => by
  rcases h.2 with ⟨hn, _⟩ | ⟨g, cap, cur, e, _, h2, _⟩
  · rw [ha] at hn
    cases hn
  · rw [ha] at e
    injection e with e
    injection e with e
    subst e
    exact ⟨_, h2⟩
/-- What is marked at the start. -/
theorem me_new {w : World} {B : Nat} {A : Option Addr} {c : Nat} {T : List En} (hm : EMades w B T) (hp : Erow w B A c T) : Me (EnB T) w A T w :=
  ⟨hp.lies, erow_gap hp, fun q hq => ⟨(hm q hq).1.spotZ (fun _ h => ⟨q, hq, .inl h⟩), (hm q hq).2.spotZ (fun _ h => ⟨q, hq, .inr h⟩)⟩, Kp.refl _ _⟩
theorem enB_low {w : World} {B : Nat} {T : List En} (hm : EMades w B T) : ∀ g, EnB T g → B ≤ g ∧ g < w.heap.size := fun g ⟨q, hq, h⟩ => by
  rcases h with ⟨ad, e, rfl⟩ | ⟨ad, e, rfl⟩
  · exact own_in (hm q hq).1 ad e
  · exact own_in (hm q hq).2 ad e
end Go.Proofs.YtmgggddnfeojmaaGreat
