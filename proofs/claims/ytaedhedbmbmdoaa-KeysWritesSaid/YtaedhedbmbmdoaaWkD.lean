/-
  Walks: the reader: a byte, an end, a number.
-/
import Derived.Test.YtaedhedbmbmdoaaWkA
import Derived.Test.YtaedhedbmbmdoaaMemR
import Derived.Test.YtaedhedbmbmdoaaBits
import Derived.Deep.CutRange
import Derived.Deep.Cut
import Derived.Deep.CutBlock
namespace Go.Proofs.Ytaedhedbmbmdoaa
open Go.RowKit

/-- Below block B all is as it was, but for block g. -/
structure BelowX (B g : Nat) (w w' : World) : Prop where
  os : w'.os = w.os
  tape : w'.tape = w.tape
  output : w'.output = w.output
  size : w.heap.size ≤ w'.heap.size
  block : ∀ k, k < B → k ≠ g → w'.heap[k]? = w.heap[k]?
theorem BelowX.refl (B g : Nat) (w : World) : BelowX B g w w := ⟨rfl, rfl, rfl, Nat.le_refl _, fun _ _ _ => rfl⟩
theorem BelowX.trans {B g : Nat} {a b c : World} (h : BelowX B g a b) (k : BelowX B g b c) : BelowX B g a c :=
  ⟨k.os.trans h.os, k.tape.trans h.tape, k.output.trans h.output, Nat.le_trans h.size k.size, fun i hi hg => (k.block i hi hg).trans (h.block i hi hg)⟩
theorem BelowX.mono {B C g : Nat} {a b : World} (h : BelowX B g a b) (hC : C ≤ B) : BelowX C g a b := ⟨h.os, h.tape, h.output, h.size, fun i hi hg => h.block i (by omega) hg⟩
theorem below_x {B g : Nat} {a b : World} (h : Below B a b) : BelowX B g a b := ⟨h.os, h.tape, h.output, h.size, fun i hi _ => h.block i hi⟩
theorem BelowX.below {B C g : Nat} {a b : World} (h : BelowX B g a b) (hC : C ≤ B) (hg : C ≤ g) : Below C a b := ⟨h.os, h.tape, h.output, h.size, fun i hi => h.block i (by omega) (by omega)⟩
theorem belowx_set (B : Nat) (w : World) (g i : Nat) (v : Value) : BelowX B g w (w.setCell ⟨g, i, none⟩ v) :=
  ⟨rfl, rfl, rfl, by simp, fun k _ hk => Below.heap_setCell w ⟨g, i, none⟩ v k hk⟩
theorem own_keptx {w w' : World} {B C g : Nat} {e : TypeId} {size : Nat} {v : Value} {n : Nat} {xs : List Value} (h : w.ownsRow B e size v n xs) (hb : BelowX C g w w') (hC : w.heap.size ≤ C) (hg : g < B) : w'.ownsRow B e size v n xs := by
  refine ⟨h.1, ?_⟩
  rcases h.2 with hn | ⟨g', cap, cur, e1, h1, h2, h3⟩
  · exact .inl hn
  · refine .inr ⟨g', cap, cur, e1, h1, ?_, h3⟩
    have hg : g' < w.heap.size := (Array.getElem?_eq_some_iff.1 h2).1
    rw [hb.block g' (by omega) (by omega), h2]

/-- Bytes below a block. -/
def BysB (w : World) (B : Nat) (A : Option Addr) (L : List Int) : Prop := L = [] ∨ ∃ ad, A = some ad ∧ ad.block < B ∧ ∀ j x, L[j]? = some x → w.cell? (ad.add j) = some (.int .u8 x)
theorem BysB.kept {w w' : World} {B : Nat} {A : Option Addr} {L : List Int} (h : BysB w B A L) (hb : Below B w w') : BysB w' B A L := by
  rcases h with h | ⟨ad, h1, h2, h3⟩
  · exact .inl h
  · refine .inr ⟨ad, h1, h2, fun j x hx => ?_⟩
    rw [hb.cell (by rw [add_block]; exact h2)]
    exact h3 j x hx
theorem Bys.lt {w : World} {A : Option Addr} {L : List Int} (h : Bys w A L) : BysB w w.heap.size A L := by
  by_cases e : L = []
  · exact .inl e
  · rcases h with h | ⟨ad, h1, h2⟩
    · exact absurd h e
    · refine .inr ⟨ad, h1, ?_, h2⟩
      cases L with
      | nil => exact absurd rfl e
      | cons x s =>
        have := World.block_lt_of_cell? w _ (h2 0 x rfl)
        rwa [add_block] at this
theorem BysB.tail {w : World} {B : Nat} {A : Option Addr} {x : Int} {L : List Int} {c : Nat} (h : BysB w B A (x :: L)) (hc : L.length + 1 ≤ c) : BysB w B (if c = 1 then A else A.map (·.add 1)) L := by
  by_cases e : c = 1
  · left
    subst e
    exact List.eq_nil_of_length_eq_zero (by omega)
  · obtain ⟨ad, rfl, h2, h3⟩ := h.resolve_left (by simp)
    rw [if_neg e]
    refine .inr ⟨ad.add 1, rfl, by rw [add_block]; exact h2, fun j y hy => ?_⟩
    rw [add_add]
    exact h3 (1 + j) y (by rw [Nat.add_comm]; simpa using hy)

/-- A reader over bytes: its block, what is left. -/
structure Rd (w : World) (B g : Nat) (A : Option Addr) (c : Nat) (L : List Int) : Prop where
  low : B ≤ g
  cell : w.heap[g]? = some (.cells #[.slice A L.length c] 51 (0, 0))
  cap : L.length ≤ c
  top : (c : Int) ≤ 9223372036854775807
  byt : Byt L
  bys : BysB w B A L
theorem Rd.lt {w : World} {B g : Nat} {A : Option Addr} {c : Nat} {L : List Int} (h : Rd w B g A c L) : g < w.heap.size := (Array.getElem?_eq_some_iff.1 h.cell).1
theorem Rd.kept {w w' : World} {B C g : Nat} {A : Option Addr} {c : Nat} {L : List Int} (h : Rd w B g A c L) (hb : Below C w w') (hC : g < C) : Rd w' B g A c L :=
  ⟨h.low, by rw [hb.block g hC, h.cell], h.cap, h.top, h.byt, h.bys.kept (hb.mono (by have := h.low; omega))⟩
theorem Rd.alloc {w : World} {B g : Nat} {A : Option Addr} {c : Nat} {L : List Int} (h : Rd w B g A c L) (o : Obj) : Rd (w.alloc o) B g A c L := h.kept (below_new w o) h.lt
theorem Rd.at_ {w : World} {B g : Nat} {A : Option Addr} {c : Nat} {L : List Int} (h : Rd w B g A c L) : w.cell? ⟨g, 0, none⟩ = some (.slice A L.length c) ∧ w.frozen? ⟨g, 0, none⟩ = false := by
  have := h.cell
  constructor
  · simp [World.cell?, this]
  · simp [World.frozen?, this]
theorem Rd.step {w : World} {B g : Nat} {A : Option Addr} {c : Nat} {x : Int} {L : List Int} (h : Rd w B g A c (x :: L)) :
    Rd (w.setCell ⟨g, 0, none⟩ (.slice (if c = 1 then A else A.map (·.add 1)) L.length (c - 1))) B g (if c = 1 then A else A.map (·.add 1)) (c - 1) L := by
  obtain ⟨h1, h2, h3, h4, h5, h6⟩ := h
  have h3' : L.length + 1 ≤ c := h3
  refine ⟨h1, ?_, by omega, by omega, h5.tail, (h6.tail h3').kept ((Below.refl B w).setCell h1 _)⟩
  simp [World.setCell, Array.getElem?_modify, h2]

theorem size8 (W : World) : (sizeOf (Try.prog.elem 24)).run Try.prog W = .ok 1 W := by
  have h : Try.prog.elem 24 = 5 := by kernel_rfl
  obtain ⟨i, hi, hz0, hz1, hz2⟩ := info_parts info5
  rw [h]
  simp [sizeOf, typeInfo, hi, hz1]
theorem under8 : Try.prog.underlying 24 = some (.slice (Try.prog.elem 24)) := by kernel_rfl
/-- b[1:] -/
theorem slice_one (A : Option Addr) (k c : Nat) (_hc : 1 + k ≤ c) (W : World) : (Instr.slice 24 (.slice A (k + 1) c) (some (.int .i64 1)) none none).run Try.prog W = .ok (.slice (if c = 1 then A else A.map (·.add 1)) k (c - 1)) W := by
  rw [run_slice_l (P := Try.prog) W _ A (k + 1) c under8 .i64 1 (by omega) (by omega), size8]
  simp [Result.andThen, sliced]

theorem int_val {k : IntKind} {a b : Int} (h : a = b) : Value.int k a = Value.int k b := by rw [h]

/-- The reader gives up. -/
def broke (n : Int) : Ending := .panicked [{ v := .iface 48 (.agg #[.int .i64 n]), recovered := false }]

theorem next_nil (w : World) (B g : Nat) (A : Option Addr) (c : Nat) (h : Rd w B g A c []) :
    Calls Try.prog 39 #[.pointer (some ⟨g, 0, none⟩)] w fun e w' => e = broke 10 ∧ w = w' := by
  obtain ⟨c0, c1⟩ := h.at_
  simp only [List.length_nil] at c0
  clear h
  go_enter Try.func39, Try.ntmps39
  go_wp2
  exact ⟨rfl, rfl, rfl⟩

/-- What is read on: the reader behind it. -/
def Went (w : World) (B g : Nat) (v : Value) (L : List Int) (e : Ending) (w' : World) : Prop := e = .returned v ∧ (∃ A c, Rd w' B g A c L) ∧ BelowX w.heap.size g w w'

theorem next_cons (w : World) (B g : Nat) (A : Option Addr) (c : Nat) (x : Int) (L : List Int) (h : Rd w B g A c (x :: L)) :
    Calls Try.prog 39 #[.pointer (some ⟨g, 0, none⟩)] w (Went w B g (.int .u8 x) L) := by
  obtain ⟨c0, c1⟩ := h.at_
  have HS := Lib.hid h.step
  obtain ⟨ad, rfl, hlt, hcell⟩ := h.bys.resolve_left (by simp)
  have k0 := hcell 0 x rfl
  have HC := Lib.hid h.cap
  have htop := h.top
  simp only [List.length_cons] at c0
  have hsl := slice_one (some ad) L.length c (by have := h.cap; simp at this; omega)
  have hk : ad.add 0 = ad := by simp [Addr.add]
  rw [hk] at k0
  obtain ⟨A', hA'⟩ : ∃ A', (if c = 1 then some ad else (some ad).map (·.add 1)) = A' := ⟨_, rfl⟩
  obtain ⟨n, hn⟩ : ∃ n, L.length = n := ⟨_, rfl⟩
  rw [hA'] at HS hsl
  rw [hn] at HS hsl c0
  clear h hcell hA' hk hn
  go_enter Try.func39, Try.ntmps39
  go_wp2
  go_ret
  exact ⟨rfl, ⟨_, _, HS.out⟩, belowx_set _ _ _ _ _⟩

/-- It gives up. -/
def Broke (w : World) (B : Nat) (n : Int) (e : Ending) (w' : World) : Prop := e = broke n ∧ Below B w w'

theorem isEnd_nil (w : World) (B g : Nat) (A : Option Addr) (c : Nat) (h : Rd w B g A c []) :
    Calls Try.prog 44 #[.pointer (some ⟨g, 0, none⟩)] w (Broke w B 10) := by
  have H := Lib.hid (next_nil w B g A c h)
  clear h
  go_enter Try.func44, Try.ntmps44
  go_wp2_with (go_at_call 39; refine H.out.mono ?_; rintro e w1 ⟨he, hw⟩; unfold broke at he; subst he; subst hw)
  exact ⟨rfl, rfl, Below.refl _ _⟩
theorem isEnd_end (w : World) (B g : Nat) (A : Option Addr) (c : Nat) (L : List Int) (h : Rd w B g A c (1 :: L)) :
    Calls Try.prog 44 #[.pointer (some ⟨g, 0, none⟩)] w (Went w B g (.bool true) L) := by
  have H := Lib.hid (next_cons w B g A c 1 L h)
  clear h
  go_enter Try.func44, Try.ntmps44
  go_wp2_with (go_at_call 39; refine H.out.mono ?_; rintro e w1 ⟨rfl, hr, hb⟩; have R := Lib.hid (And.intro hr hb); clear hr hb)
  go_ret
  exact ⟨rfl, R.out.1, R.out.2⟩
theorem isEnd_nought (w : World) (B g : Nat) (A : Option Addr) (c : Nat) (L : List Int) (h : Rd w B g A c (255 :: L)) :
    Calls Try.prog 44 #[.pointer (some ⟨g, 0, none⟩)] w (Went w B g (.bool false) L) := by
  have H := Lib.hid (next_cons w B g A c 255 L h)
  clear h
  go_enter Try.func44, Try.ntmps44
  go_wp2_with (go_at_call 39; refine H.out.mono ?_; rintro e w1 ⟨rfl, hr, hb⟩; have R := Lib.hid (And.intro hr hb); clear hr hb)
  go_ret
  exact ⟨rfl, R.out.1, R.out.2⟩
theorem isEnd_bad (w : World) (B g : Nat) (A : Option Addr) (c : Nat) (x : Int) (L : List Int) (h : Rd w B g A c (x :: L)) (h1 : x ≠ 1) (h2 : x ≠ 255) :
    Calls Try.prog 44 #[.pointer (some ⟨g, 0, none⟩)] w (Broke w B 11) := by
  have H := Lib.hid (next_cons w B g A c x L h)
  have HB := Lib.hid (And.intro h.low h.lt)
  have h1' : (x == 1) = false := by simpa using h1
  have h2' : (x == 255) = false := by simpa using h2
  clear h h1 h2
  go_enter Try.func44, Try.ntmps44
  go_wp2_with (go_at_call 39; refine H.out.mono ?_; rintro e w1 ⟨rfl, hr, hb⟩; have R := Lib.hid (And.intro hr hb); clear hr hb)
  exact ⟨rfl, rfl, R.out.2.below (by have := HB.out; omega) HB.out.1⟩

theorem valF_snoc : ∀ (v : Int) (L : List Int) (x : Int), valF v (L ++ [x]) = valF v L * 256 + x
  | _, [], _ => rfl
  | v, y :: L, x => valF_snoc (v * 256 + y) L x
theorem valF_in : ∀ (k : Nat) (L : List Int), L.length = k → Byt L → 0 ≤ valF 0 L ∧ valF 0 L < 256 ^ k
  | 0, [], _, _ => by simp [valF]
  | k + 1, L, h, hB => by
    rcases List.eq_nil_or_concat L with rfl | ⟨M, x, rfl⟩
    · simp at h
    · rw [List.concat_eq_append] at h hB ⊢
      have hM : M.length = k := by simpa using h
      obtain ⟨i0, i1⟩ := valF_in k M hM (fun y hy => hB y (by simp [hy]))
      obtain ⟨x0, x1⟩ := hB x (by simp)
      rw [valF_snoc, Int.pow_succ]
      omega
theorem pow256 (k : Nat) (h : k ≤ 7) : (256 : Int) ^ k ≤ 72057594037927936 := by
  rcases (by omega : k = 0 ∨ k = 1 ∨ k = 2 ∨ k = 3 ∨ k = 4 ∨ k = 5 ∨ k = 6 ∨ k = 7) with rfl | rfl | rfl | rfl | rfl | rfl | rfl | rfl <;> decide

theorem back_eq (v : Int) (h0 : 0 ≤ v) (h1 : v < 18446744073709551616) : IntKind.i64.wrap (bits .xor .u64 v 9223372036854775808) = v - 9223372036854775808 := by
  rw [turn_bit v h0 h1]
  simp only [IntKind.wrap_i64]
  omega

set_option maxHeartbeats 1000000 in
theorem number_short (w : World) (B g : Nat) (A : Option Addr) (c : Nat) (L : List Int) (h : Rd w B g A c L) (hl : L.length < 8) :
    Calls Try.prog 40 #[.pointer (some ⟨g, 0, none⟩)] w (Broke w B 10) := by
  have HR := Lib.hid h
  clear h
  go_enter Try.func40, Try.ntmps40
  go_wp2_with fail
  go_loopw [3, 4] (fun t3 t4 wr => ∃ (k : Nat), k ≤ L.length ∧ t4 = .int .i64 k ∧ t3 = .int .u64 (valF 0 (L.take k)) ∧ (∃ A' c', Hid (Rd wr B g A' c' (L.drop k))) ∧ Hid (BelowX w.heap.size g w wr)) (fun _ t4 _ => 8 - (intOf t4).toNat)
  case atStart => exact ⟨0, by omega, rfl, rfl, ⟨A, c, HR⟩, Lib.hid (BelowX.refl _ _ _)⟩
  case round =>
    obtain ⟨k, hk, rfl, rfl, ⟨A', c', r1⟩, b1⟩ := hrel
    have HV := Lib.hid (valF_in k (L.take k) (by simp; omega) (HR.out.byt.take k))
    by_cases hlt : k < L.length
    · have hd := List.drop_eq_getElem_cons hlt
      have hx := List.getElem?_eq_getElem hlt
      have HX := Lib.hid (HR.out.byt _ (List.getElem_mem hlt))
      have ht : valF 0 (L.take (k + 1)) = valF 0 (L.take k) * 256 + L[k] := by rw [List.take_add_one, hx]; exact valF_snoc 0 _ _
      generalize L[k] = x at hd hx HX ht
      have r2 := r1.out
      rw [hd] at r2
      have HN := Lib.hid (next_cons wr B g A' c' x _ r2)
      have HE : Hid (bits .or .u64 (valF 0 (L.take k) * 256) x = valF 0 (L.take (k + 1))) := Lib.hid (by
        have := pow256 k (by omega)
        rw [ht]
        exact or_byte _ _ HV.out.1 (by have := HV.out.2; omega) HX.out.1 HX.out.2)
      have hv0 := HV.out.1
      have hv1 : valF 0 (L.take k) < 72057594037927936 := by have := pow256 k (by omega); have := HV.out.2; omega
      have q0 := HX.out.1
      have q1 := HX.out.2
      generalize valF 0 (L.take k) = v at hv0 hv1 HE
      clear hd hx ht r2 HV
      go_wp2_with (go_at_call 39; refine HN.out.mono ?_; rintro e w1 ⟨rfl, hr, hb⟩; have R := Lib.hid hr; have B1 := Lib.hid (b1.out.trans (hb.mono b1.out.size)); clear hr hb)
      go_roundw
      case rel => exact ⟨k + 1, by omega, by go_num, int_val HE.out, by obtain ⟨A2, c2, r⟩ := R.out; exact ⟨A2, c2, Lib.hid r⟩, B1⟩
      case measure => simp [intOf]; omega
    · have hd : L.drop k = [] := List.drop_of_length_le (by omega)
      have r2 := r1.out
      rw [hd] at r2
      have HN := Lib.hid (next_nil wr B g A' c' r2)
      have hk8 : (k : Int) < 8 := by omega
      clear hd r2
      go_wp2_with (go_at_call 39; refine HN.out.mono ?_; rintro e w1 ⟨he, hw⟩; unfold broke at he; subst he; subst hw)
      exact ⟨rfl, rfl, b1.out.below (by have := HR.out.low; have := HR.out.lt; omega) HR.out.low⟩

end Go.Proofs.Ytaedhedbmbmdoaa
