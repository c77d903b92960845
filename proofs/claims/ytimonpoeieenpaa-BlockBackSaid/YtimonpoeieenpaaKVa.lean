/-
  Walks: bytes copied and compared; the form of a number.
-/
import Derived.Test.YtimonpoeieenpaaKMemK
import Derived.Test.YtimonpoeieenpaaKBits
namespace Go.Proofs.Ytimonpoeieenpaa
open Go.RowKit

theorem ret_int {k : IntKind} {a b : Int} (h : a = b) : Ending.returned (.int k a) = .returned (.int k b) := by rw [h]
/-- A new slice with bytes L. -/
def New (w : World) (L : List Int) (e : Ending) (w' : World) : Prop :=
  ∃ g c, e = .returned (.slice (some ⟨g, 0, none⟩) L.length c) ∧ Mine w' w.heap.size g c L ∧ Below w.heap.size w w'
theorem own_any (A : Option Addr) (L : List Int) (n c : Nat) (w : World) (hn : L.length = n) (h : Bys w A L) (hl : L.length ≤ 281474976710656) :
    Calls Try.prog 13 #[.slice A n c] w (New w L) := by
  have HB := Lib.hid (h.alloc (.cells #[] 5))
  have HL := Lib.hid hl
  have M0 := Lib.hid (mine_new w [] #[] rfl (by unfold maxLen; simp))
  have B0 := Lib.hid (below_new w (.cells #[] 5))
  have HN := Lib.hid hn
  clear h hl hn
  go_enter Try.func13, Try.ntmps13
  go_wp2_with (at_builtin; refine wpList_append_mine _ rfl (.tmp 3) (.tmp 4) rfl w.heap.size w.heap.size 0 [] L A 0 n c rfl rfl rfl HN.out M0.out HB.out (by simp) (.inr (.inr ⟨rfl, HL.out⟩)) ?_; intro g' c' w' m1 m2 m3; have M1 := Lib.hid (And.intro m1 m2); clear m1 m2 m3)
  go_ret
  exact ⟨g', c', by simp, M1.out.1, B0.out.grown M1.out.2 (by simp) (fun k hk => by injection hk with hk; omega)⟩
theorem copy_any (A : Option Addr) (L : List Int) (n c : Nat) (w : World) (hn : L.length = n) (h : Bys w A L) (hl : L.length ≤ 281474976710656) :
    Calls Try.prog 32 #[.slice A n c] w (New w L) := by
  have HB := Lib.hid (h.alloc (.cells #[] 5))
  have HL := Lib.hid hl
  have M0 := Lib.hid (mine_new w [] #[] rfl (by unfold maxLen; simp))
  have B0 := Lib.hid (below_new w (.cells #[] 5))
  have HN := Lib.hid hn
  clear h hl hn
  go_enter Try.func32, Try.ntmps32
  go_wp2_with (at_builtin; refine wpList_append_mine _ rfl (.tmp 3) (.tmp 4) rfl w.heap.size w.heap.size 0 [] L A 0 n c rfl rfl rfl HN.out M0.out HB.out (by simp) (.inr (.inr ⟨rfl, HL.out⟩)) ?_; intro g' c' w' m1 m2 m3; have M1 := Lib.hid (And.intro m1 m2); clear m1 m2 m3)
  go_ret
  exact ⟨g', c', by simp, M1.out.1, B0.out.grown M1.out.2 (by simp) (fun k hk => by injection hk with hk; omega)⟩
theorem same_any (A C : Option Addr) (L : List Int) (n m c d : Nat) (w : World) (hn : L.length = n) (hm : L.length = m) (h : Bys w A L) (g : Bys w C L) :
    Calls Try.prog 11 #[.slice A n c, .slice C m d] w fun e w' => e = .returned (.bool true) ∧ w = w' := by
  have k1 := conv_any h n c hn
  have k2 := conv_any g m d hm
  clear h g hn hm
  go_enter Try.func11, Try.ntmps11
  go_wp2
  go_ret
  exact ⟨by simp, rfl⟩
/-- The form of v, as it lies in the array that the call made. -/
def Formed (w : World) (v : Int) (e : Ending) (w' : World) : Prop :=
  ∃ g, e = .returned (.slice (some ⟨g, 0, none⟩) (digs v).length (digs v).length) ∧ Bys w' (some ⟨g, 0, none⟩) (digs v) ∧ Below w.heap.size w w'
theorem int_eq {k : IntKind} {a b : Int} (h : a = b) : Value.int k a = .int k b := by rw [h]
theorem slice_ten (w : World) (b n : Nat) (hn : n < 10) : (Instr.sliceAt 69 (.pointer (some ⟨b, 0, none⟩)) none (some (.int .i64 ((n : Int) + 1))) (some (.int .i64 ((n : Int) + 1)))).run Try.prog w = .ok (.slice (some ⟨b, 0, none⟩) (n + 1) (n + 1)) w := by
  have e : Try.prog.arrayLen 69 = 10 := by kernel_rfl
  have z : (sizeOf (Try.prog.elem 69)).run Try.prog w = .ok 1 w := by
    have h : Try.prog.elem 69 = 5 := by kernel_rfl
    obtain ⟨i, hi, hz0, hz1, hz2⟩ := info_parts info5
    rw [h]
    simp [sizeOf, typeInfo, hi, hz1]
  rw [run_sliceAt_array_hm (P := Try.prog) w 69 ⟨b, 0, none⟩ (by kernel_rfl) .i64 .i64 ((n : Int) + 1) ((n : Int) + 1) (by omega) (by omega) (by rw [e]; omega), z]
  have en : ((n : Int) + 1).toNat = n + 1 := by omega
  rw [en]
  simp [Result.andThen, slicedAt, Addr.add]
theorem getD_snoc (P : List Int) (x : Int) (j : Nat) : (P ++ [x]).getD j 0 = if j = P.length then x else P.getD j 0 := by
  simp only [List.getD_eq_getElem?_getD]
  by_cases h : j < P.length
  · rw [List.getElem?_append_left h, if_neg (by omega)]
  · rw [List.getElem?_append_right (by omega)]
    by_cases e : j = P.length
    · subst e; simp
    · rw [if_neg e, List.getElem?_eq_none (by simp; omega), List.getElem?_eq_none (by omega)]
set_option maxRecDepth 100000 in
set_option maxHeartbeats 1000000 in
theorem form_any (v : Int) (w : World) (h0 : 0 ≤ v) (h1 : v ≤ 18446744073709551615) :
    Calls Try.prog 37 #[.int .u64 v] w (Formed w v) := by
  have H0 := Lib.hid h0
  have H1 := Lib.hid h1
  clear h0 h1
  go_enter Try.func37, Try.ntmps37
  go_wp2_with fail
  go_loopw [0, 4] (fun t0 t4 wr => ∃ (P : List Int) (f : Nat) (u : Int), P.length + f = 9 ∧ t0 = .int .u64 u ∧ t4 = .int .i64 P.length ∧ 0 ≤ u ∧ u < 128 ^ (f + 1) ∧ u ≤ 18446744073709551615 ∧ Hid (P ++ digsF f u = digs v) ∧ Hid (wr.rowIs w.heap.size 69 10 (fun j => .int .u8 (P.getD j 0))) ∧ Hid (Below w.heap.size w wr)) (fun _ t4 _ => 10 - (intOf t4).toNat)
  case atStart =>
    refine ⟨[], 9, v, rfl, rfl, rfl, H0.out, by have := H1.out; omega, H1.out, Lib.hid rfl, Lib.hid ?_, Lib.hid (below_new w _)⟩
    exact World.rowIs_alloc w #[.int .u8 0, .int .u8 0, .int .u8 0, .int .u8 0, .int .u8 0, .int .u8 0, .int .u8 0, .int .u8 0, .int .u8 0, .int .u8 0] 69 _ (fun i hi => by
      have hi : i < 10 := hi
      have : i = 0 ∨ i = 1 ∨ i = 2 ∨ i = 3 ∨ i = 4 ∨ i = 5 ∨ i = 6 ∨ i = 7 ∨ i = 8 ∨ i = 9 := by omega
      rcases this with rfl | rfl | rfl | rfl | rfl | rfl | rfl | rfl | rfl | rfl <;> rfl)
  case round =>
    obtain ⟨P, f, u, hf, rfl, rfl, u0, u1, u2, hp, hr, hb⟩ := hrel
    have r1 := hr.out
    have c1 := r1.cell (i := P.length) (by omega)
    have f1 := r1.frozen P.length
    clear r1
    obtain ⟨n, hn⟩ : ∃ n, P.length = n := ⟨_, rfl⟩
    have HN := Lib.hid hn
    have n9 : n ≤ 9 := by omega
    rw [hn] at c1 f1 hf ⊢
    clear hn
    have i0 : (0 : Int) ≤ n := by omega
    have i1 : (n : Int) < 10 := by omega
    have i2 : (n : Int) + 1 ≤ 10 := by omega
    by_cases hlt : u < 128
    · have e1 : IntKind.u8.wrap u = u := by rw [IntKind.wrap_u8]; omega
      have hsl := fun W => slice_ten W w.heap.size n (by omega)
      go_wp2
      go_ret
      have hP := HN.out
      have hd : digs v = P ++ [u] := by rw [← hp.out, digsF_low _ _ hlt]
      refine ⟨w.heap.size, by rw [hd]; simp [hP], ?_, hb.out.setCell (Nat.le_refl _) _⟩
      rw [hd]
      refine .inr ⟨_, rfl, fun j x hx => ?_⟩
      rw [add_head]
      have hj : j < n + 1 := by
        have := (List.getElem?_eq_some_iff.1 hx).1
        simp at this
        omega
      rw [(hr.out.set n (.int .u8 u)).cell (i := j) (by omega)]
      have : (P ++ [u]).getD j 0 = x := by rw [List.getD_eq_getElem?_getD, hx]; rfl
      rw [← this, getD_snoc, hP]
      split <;> rfl
    · have e1 : IntKind.u8.wrap u = u % 256 := by rw [IntKind.wrap_u8]
      have e2 := or_mark u
      go_wp2
      go_roundw
      case rel =>
        obtain ⟨f', rfl⟩ : ∃ f', f = f' + 1 := ⟨f - 1, by
          have : f ≠ 0 := fun e => by subst e; omega
          omega⟩
        have hP := HN.out
        refine ⟨P ++ [u % 128 + 128], f', u / 128, by simp; omega, rfl, int_eq (by simp; omega), by omega, ?_, by omega, Lib.hid ?_, Lib.hid ((hr.out.set n _).congr fun j _ => ?_), Lib.hid (hb.out.setCell (Nat.le_refl _) _)⟩
        · rw [Int.pow_succ] at u1
          generalize (128 : Int) ^ (f' + 1) = Q at *
          omega
        · rw [List.append_assoc, List.singleton_append, ← digsF_high _ _ hlt, hp.out]
        · rw [getD_snoc, hP]
          split <;> rfl
      case measure => simp [intOf]; omega

end Go.Proofs.Ytimonpoeieenpaa
