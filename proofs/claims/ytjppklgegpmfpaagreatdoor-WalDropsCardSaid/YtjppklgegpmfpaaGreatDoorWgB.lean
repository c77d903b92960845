/-
  Walks: a log as it lies; its segments' names, how full it is.
-/
import Derived.Test.YtjppklgegpmfpaaGreatDoorWgA
import Derived.Test.YtjppklgegpmfpaaGreatDoorPgR
import Derived.Test.YtjppklgegpmfpaaGreatDoorFwC
import Derived.Lib.AppendIntMem
import Derived.Deep.RegionHeld3
import Derived.OrdersHeld
namespace Go.Proofs.YtjppklgegpmfpaaGreatDoor
open Go.RowKit
open Go.Maps

/-- The powers of ten lie below B, as they were laid. -/
def Tab (B : Nat) (w : World) : Prop := Lib.TabBelow Tryz.prog B w "internal/strconv.uint64pow10" .u64 Lib.pow10Tab
theorem Tab.on {B : Nat} {w w' : World} (h : Tab B w) (hb : Below B w w') : Tab B w' := Lib.TabBelow.on h hb
theorem Tab.mono {B C : Nat} {w : World} (h : Tab B w) (hC : B ≤ C) : Tab C w := fun w' hb => h w' (hb.mono hC)

/-- A log. -/
structure Lg where
  p : ByteArray
  size : Nat
  num : Nat
  len : Nat
/-- It lies at a block, over the disk at another one. -/
def LgAt (w : World) (lb g : Nat) (l : Lg) : Prop := w.heap[lb]? = some (.cells #[.pointer (some ⟨g, 0, none⟩), .string l.p, .int .i64 (l.size : Int), .int .i64 (l.num : Int), .int .i64 (l.len : Int)] 57 (0, 0))
theorem LgAt.cell {w : World} {lb g : Nat} {l : Lg} (h : LgAt w lb g l) : w.cell? ⟨lb, 0, none⟩ = some (.pointer (some ⟨g, 0, none⟩)) ∧ w.cell? ⟨lb, 1, none⟩ = some (.string l.p) ∧ w.cell? ⟨lb, 2, none⟩ = some (.int .i64 (l.size : Int)) ∧ w.cell? ⟨lb, 3, none⟩ = some (.int .i64 (l.num : Int)) ∧ w.cell? ⟨lb, 4, none⟩ = some (.int .i64 (l.len : Int)) := by
  unfold LgAt at h
  refine ⟨?_, ?_, ?_, ?_, ?_⟩ <;> simp [World.cell?, h]
theorem LgAt.frozen {w : World} {lb g : Nat} {l : Lg} (h : LgAt w lb g l) (i : Nat) : w.frozen? ⟨lb, i, none⟩ = false := by
  unfold LgAt at h
  simp [World.frozen?, h]
theorem LgAt.lt {w : World} {lb g : Nat} {l : Lg} (h : LgAt w lb g l) : lb < w.heap.size := (Array.getElem?_eq_some_iff.1 h).1
theorem LgAt.of {w w' : World} {lb g : Nat} {l : Lg} (h : LgAt w lb g l) (e : w'.heap[lb]? = w.heap[lb]?) : LgAt w' lb g l := by
  unfold LgAt at h ⊢
  rw [e, h]
theorem LgAt.kept {w w' : World} {lb g : Nat} {l : Lg} (h : LgAt w lb g l) (hb : Below w.heap.size w w') : LgAt w' lb g l := h.of (hb.block lb h.lt)
theorem LgAt.setNum {w : World} {lb g : Nat} {l : Lg} (h : LgAt w lb g l) (n : Nat) : LgAt (w.setCell ⟨lb, 3, none⟩ (.int .i64 (n : Int))) lb g { l with num := n } := by
  unfold LgAt at h ⊢
  simp [World.setCell, Array.getElem?_modify, h]
theorem LgAt.setLen {w : World} {lb g : Nat} {l : Lg} (h : LgAt w lb g l) (n : Nat) : LgAt (w.setCell ⟨lb, 4, none⟩ (.int .i64 (n : Int))) lb g { l with len := n } := by
  unfold LgAt at h ⊢
  simp [World.setCell, Array.getElem?_modify, h]

theorem itoa_any (B n : Nat) (w : World) (hn : n ≤ 999999) (hT : Tab B w) (hB : B ≤ w.heap.size) :
    Calls Tryz.prog 44 #[.int .i64 (n : Int)] w fun e w' => e = .returned (.string ⟨(Lib.decDigits n).toArray⟩) ∧ Below w.heap.size w w' := by
  refine (Tryz.strconv_Itoa (n : Int) (by omega) (by omega) w (Lib.TabBelow.here hT)).mono ?_
  rintro e w' ⟨rfl, k, os, rfl⟩
  refine ⟨by rw [Lib.itoa_nonneg], ?_⟩
  exact ⟨rfl, rfl, rfl, by simp [Go.Sort.grow], fun i hi => Go.Sort.heap_grow_old (w.drewN k) os hi⟩

theorem str_add (a b : ByteArray) (h : a.size + b.size ≤ 9223372036854775807) : ∀ W : World, (Op.stringOp .add a b).run Tryz.prog W = .ok (.string (a ++ b)) W := fun W => run_string_add_sum W a b h
set_option maxRecDepth 100000 in
set_option maxHeartbeats 2000000 in
theorem name_any (B lb g n : Nat) (l : Lg) (w : World) (hp : IsPre l.p) (hn : n ≤ 999999) (h : LgAt w lb g l) (hT : Tab B w) (hB : B ≤ w.heap.size) :
    Calls Tryz.prog 26 #[.pointer (some ⟨lb, 0, none⟩), .int .i64 (n : Int)] w fun e w' => e = .returned (.string (seg l.p n)) ∧ Below w.heap.size w w' := by
  obtain ⟨t, ht⟩ : ∃ t : ByteArray, ⟨(Lib.decDigits n).toArray⟩ = t := ⟨_, rfl⟩
  obtain ⟨k, hk⟩ : ∃ k, t.size = k := ⟨_, rfl⟩
  have hk6 : k ≤ 6 := by
    rw [← hk, ← ht]
    have := (dec_six n hn).1
    show (Lib.decDigits n).toArray.size ≤ 6
    simpa using this
  have hkd : (Lib.decDigits n).length = k := by rw [← hk, ← ht]; show _ = (Lib.decDigits n).toArray.size; simp
  obtain ⟨z, hz⟩ : ∃ z : ByteArray, ⟨(Lib.repeatL [48] (6 - k)).toArray⟩ = z := ⟨_, rfl⟩
  have hzs : z.size = 6 - k := by
    rw [← hz, rep_one]
    show (List.replicate (6 - k) (48 : UInt8)).toArray.size = _
    simp
  have hps := hp.high
  obtain ⟨a1, h1⟩ : ∃ a, l.p ++ z = a := ⟨_, rfl⟩
  obtain ⟨a2, h2⟩ : ∃ a, a1 ++ t = a := ⟨_, rfl⟩
  have HSN : a2 ++ ⟨#[46, 108, 111, 103]⟩ = seg l.p n := by
    rw [← h2, ← h1, ← hz, ← ht, ← hkd]
    exact seg_made l.p n hn
  have s1 : a1.size = l.p.size + (6 - k) := by rw [← h1, ByteArray.size_append, hzs]
  have s2 : a2.size = l.p.size + 6 := by rw [← h2, ByteArray.size_append, s1, hk]; omega
  have E1 := str_add l.p z (by omega)
  have E2 := str_add a1 t (by omega)
  have E3 := str_add a2 ⟨#[46, 108, 111, 103]⟩ (by show a2.size + 4 ≤ _; omega)
  rw [h1] at E1
  rw [h2] at E2
  rw [HSN] at E3
  obtain ⟨sg, hsg⟩ : ∃ sg, seg l.p n = sg := ⟨_, rfl⟩
  rw [hsg] at E3
  rw [hsg]
  have HI := Lib.hid (itoa_any B n w hn hT hB)
  rw [ht] at HI
  have HR : Hid (∀ W, Calls Tryz.prog 45 #[.string ⟨#[48]⟩, .int .i64 (6 - (k : Int))] W fun e w' => e = .returned (.string z) ∧ Below W.heap.size W w') := Lib.hid (fun W => by
    have e : (6 - (k : Int)) = ((6 - k : Nat) : Int) := by omega
    rw [e, ← hz]
    exact Tryz.strings_Repeat ⟨#[48]⟩ (6 - k) W (by omega) (by show 1 * (6 - k) ≤ _; omega))
  have hwr : IntKind.i64.wrap (6 - (k : Int)) = 6 - (k : Int) := by rw [IntKind.wrap_i64]; omega
  have HC := Lib.hid (fun (W : World) (hb : Below w.heap.size w W) => (h.kept hb).cell.2.1)
  clear h ht hz hkd hzs hps h1 h2 HSN s1 s2 hsg
  go_enter Tryz.func26, Tryz.ntmps26
  go_upto_region 2 with (go_at_call 44; refine HI.out.mono ?_; rintro e w1 ⟨rfl, hb⟩; have B1 := Lib.hid hb; clear hb)
  refine wp_region_held (S := fun W => W.cell? ⟨lb, 1, none⟩ = some (.string l.p)) (by kernel_rfl) ?_
  change wpAnyH _ _ _ _ _ _ _ _ (World.drew _)
  have s0 := HC.out _ B1.out.drew
  refine wpAnyH_take (i := 0) (v := .pointer (some ⟨lb, 0, none⟩)) rfl (by kernel_rfl) (by kernel_rfl) (by kernel_rfl) (fun _ _ _ h => h) (Or.inl ⟨by first | rfl | kernel_rfl, fun _ hS => by go_simp⟩) s0 ?_
  refine wpAnyH_take (i := 1) (v := .pointer (some ⟨lb, 0, none⟩)) rfl (by kernel_rfl) (by kernel_rfl) (by kernel_rfl) (fun _ _ _ h => h) (Or.inl ⟨by first | rfl | kernel_rfl, fun _ hS => by go_simp⟩) s0 ?_
  refine wpAnyH_take (i := 2) (v := .pointer (some ⟨lb, 1, none⟩)) rfl (by kernel_rfl) (by kernel_rfl) (by kernel_rfl) (fun _ _ _ h => h) (Or.inl ⟨by first | rfl | kernel_rfl, fun _ hS => by go_simp⟩) s0 ?_
  refine wpAnyH_take (i := 3) (v := .string l.p) rfl (by kernel_rfl) (by kernel_rfl) (by kernel_rfl) (fun _ _ _ h => h) (Or.inl ⟨by first | rfl | kernel_rfl, fun _ hS => by have := hS; go_simp⟩) s0 ?_
  refine wpAnyH_take (i := 4) (v := .string t) rfl (by kernel_rfl) (by kernel_rfl) (by kernel_rfl) (fun _ _ _ h => h) (Or.inl ⟨by first | rfl | kernel_rfl, fun _ hS => by go_simp⟩) s0 ?_
  refine wpAnyH_take (i := 5) (v := .int .i64 (k : Int)) rfl (by kernel_rfl) (by kernel_rfl) (by kernel_rfl) (fun _ _ _ h => h) (Or.inl ⟨by first | rfl | kernel_rfl, fun _ hS => by go_simp⟩) s0 ?_
  refine wpAnyH_take (i := 6) (v := .int .i64 (6 - (k : Int))) rfl (by kernel_rfl) (by kernel_rfl) (by kernel_rfl) (fun _ _ _ h => h) (Or.inl ⟨by first | rfl | kernel_rfl, fun _ hS => by go_simp⟩) s0 ?_
  refine wpAnyH_take (i := 9) (v := .string t) rfl (by kernel_rfl) (by kernel_rfl) (by kernel_rfl) (fun _ _ _ h => h) (Or.inl ⟨by first | rfl | kernel_rfl, fun _ hS => by go_simp⟩) s0 ?_
  refine wpAnyH_ready (rs := [7]) (by kernel_rfl) (by simp) ?_
  refine AllReadyH.cons rfl (fun K hK => ?_) AllReadyH.nil
  go_simp
  go_at_call 45
  refine (HR.out _).mono ?_
  rintro e w2 ⟨rfl, hb⟩
  have B2 : Hid (Below w.heap.size w w2) := Lib.hid (B1.out.drew.trans (hb.mono B1.out.size))
  clear hb
  have s2 := HC.out _ B2.out
  refine hK.out _ _ s2 (fun _ => ?_)
  clear hK K
  try simp only [Act.put, List.setIfInBounds_toArray, List.set_cons_zero, List.set_cons_succ, List.getElem_toArray, List.getElem_cons_zero, List.getElem_cons_succ]
  refine wpAnyH_take (i := 8) (v := .string a1) rfl (by kernel_rfl) (by kernel_rfl) (by kernel_rfl) (fun _ _ _ h => h) (Or.inl ⟨by first | rfl | kernel_rfl, fun _ hS => by go_simp⟩) s2 ?_
  refine wpAnyH_take (i := 10) (v := .string a2) rfl (by kernel_rfl) (by kernel_rfl) (by kernel_rfl) (fun _ _ _ h => h) (Or.inl ⟨by first | rfl | kernel_rfl, fun _ hS => by go_simp⟩) s2 ?_
  refine wpAnyH_take (i := 11) (v := .string sg) rfl (by kernel_rfl) (by kernel_rfl) (by kernel_rfl) (fun _ _ _ h => h) (Or.inl ⟨by first | rfl | kernel_rfl, fun _ hS => by go_simp⟩) s2 ?_
  refine wpAnyH_take (i := 12) (v := .string sg) rfl (by kernel_rfl) (by kernel_rfl) (by kernel_rfl) (fun _ _ _ h => h) (Or.inl ⟨by first | rfl | kernel_rfl, fun _ hS => by go_simp⟩) s2 ?_
  refine wpAnyH_done (by kernel_rfl) ?_ _
  try simp only [Act.put, List.setIfInBounds_toArray, List.set_cons_zero, List.set_cons_succ, List.getElem_toArray, List.getElem_cons_zero, List.getElem_cons_succ]
  go_wp2_with fail
  go_ret
  exact ⟨by simp, B2.out⟩

end Go.Proofs.YtjppklgegpmfpaaGreatDoor
