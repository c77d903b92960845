/-
  Walks: what is above all that begin with some bytes.
-/
import Derived.Test.YtaedhedbmbmdoaaWkI
import Derived.Test.YtaedhedbmbmdoaaWkH
import Derived.Laws.OwnMore
import Derived.Deep.RegionLaw
namespace Go.Proofs.Ytaedhedbmbmdoaa
open Go.RowKit

theorem next_full : ∀ L : List Int, (∀ (j : Nat) (x : Int), L[j]? = some x → x = 255) → nextL L = []
  | [], _ => rfl
  | x :: s, h => by
    have hx : x = 255 := h 0 x rfl
    have ih := next_full s (fun j y hy => h (j + 1) y (by simpa using hy))
    unfold nextL
    rw [ih, if_neg (by simp), if_neg (by omega)]
theorem next_at : ∀ (L : List Int) (k : Nat) (x : Int), L[k]? = some x → x < 255 → (∀ (j : Nat) (y : Int), k < j → L[j]? = some y → y = 255) → nextL L = L.take k ++ [x + 1]
  | [], _, _, h, _, _ => by simp at h
  | y :: s, 0, x, h, hx, hf => by
    have e : y = x := by simpa using h
    subst e
    have := next_full s (fun j z hz => hf (j + 1) z (by omega) (by simpa using hz))
    unfold nextL
    rw [this, if_neg (by simp), if_pos hx]
    rfl
  | y :: s, k + 1, x, h, hx, hf => by
    have ih := next_at s k x (by simpa using h) hx (fun j z hj hz => hf (j + 1) z (by omega) (by simpa using hz))
    unfold nextL
    rw [if_pos (by rw [ih]; simp), ih]
    rfl

/-- A row of the call's own, its last byte laid anew. -/
theorem row_last {w : World} {B : Nat} {A : Option Addr} {c : Nat} {M : List Int} {x : Int} (h : Row w B A c (M ++ [x])) : ∃ g, A = some ⟨g, 0, none⟩ ∧ B ≤ g ∧ w.cell? ⟨g, M.length, none⟩ = some (.int .u8 x) ∧ w.frozen? ⟨g, M.length, none⟩ = false ∧ ∀ y, Row (w.setCell ⟨g, M.length, none⟩ (.int .u8 y)) B A c (M ++ [y]) := by
  have h' := h
  rcases h.2 with ⟨_, h0⟩ | ⟨g, cap, cur, e, h1, _⟩
  · simp at h0
  · injection e with e1 e2 e3
    subst e1
    subst e3
    refine ⟨g, rfl, h1, ?_, ?_, fun y => ?_⟩
    · unfold Row at h'
      rw [h'.cellAt M.length (by simp)]
      simp [vals]
    · exact h'.frozenAt _
    · have := (h'.stored M.length (.int .u8 y)).1
      unfold Row
      simp only [List.length_append, List.length_singleton] at this ⊢
      have e : (vals (M ++ [x])).set M.length (.int .u8 y) = vals (M ++ [y]) := by
        simp [vals]
      rw [← e]
      exact this

/-- b[:k] -/
theorem slice_high {w : World} {A : Option Addr} {L : List Int} (h : Bys w A L) (n k c : Nat) (hn : L.length = n) (hk : k ≤ n) (hc : n ≤ c) :
    (∀ W, (Instr.slice 24 (.slice A n c) none (some (.int .i64 (k : Int))) none).run Try.prog W = .ok (.slice A k c) W) ∧ Bys w A (L.take k) := by
  refine ⟨fun W => ?_, ?_⟩
  · rw [run_slice_h (P := Try.prog) W _ A n c under8 .i64 (k : Int) (by omega) (by omega), size8]
    cases A <;> simp [Result.andThen, sliced, Addr.add]
  · rcases h with rfl | ⟨ad, rfl, h2⟩
    · left; simp
    · refine .inr ⟨ad, rfl, fun j x hx => h2 j x ?_⟩
      rw [List.getElem?_take] at hx
      split at hx
      · exact hx
      · cases hx
theorem Bys.at_ {w : World} {A : Option Addr} {L : List Int} {k : Nat} {x : Int} (h : Bys w A L) (hx : L[k]? = some x) : ∃ ad, A = some ad ∧ w.cell? (ad.add k) = some (.int .u8 x) := by
  rcases h with rfl | ⟨ad, rfl, h2⟩
  · simp at hx
  · exact ⟨ad, rfl, h2 k x hx⟩

set_option maxHeartbeats 2000000 in
theorem next_any (A : Option Addr) (L : List Int) (n c : Nat) (w : World) (h : In w A L n c) (hl : n ≤ 140737488351232) :
    Calls Try.prog 19 #[.slice A n c] w (Longer w w.heap.size (nextL L)) := by
  have HI := Lib.hid h
  have HN := Lib.hid h.len
  clear h
  go_enter Try.func19, Try.ntmps19
  go_wp2_with fail
  go_loop [3] (fun t3 => ∃ k : Nat, k ≤ n ∧ t3 = .int .i64 k ∧ Hid (∀ (j : Nat) (y : Int), k ≤ j → L[j]? = some y → y = 255)) (fun t3 => (intOf t3).toNat)
  case atStart => exact ⟨n, by omega, rfl, Lib.hid (fun j y hj hy => by have := (List.getElem?_eq_some_iff.1 hy).1; have := HN.out; omega)⟩
  case round =>
    obtain ⟨k, hk, rfl, hf⟩ := hrel
    cases k with
    | zero =>
      have HE := Lib.hid (next_full L (fun j y hy => hf.out j y (by omega) hy))
      go_wp2_with fail
      go_ret
      rw [HE.out]
      exact ⟨none, 0, rfl, Row.nil _ _, Below.refl _ _⟩
    | succ k =>
      have hx := List.getElem?_eq_getElem (l := L) (i := k) (by have := HN.out; omega)
      have HX := Lib.hid (HI.out.byt _ (List.getElem_mem (l := L) (n := k) (by have := HN.out; omega)))
      generalize L[k]'(by have := HN.out; omega) = x at hx HX
      obtain ⟨ad, rfl, a0⟩ := HI.out.bys.at_ hx
      have HQ := Lib.hid hx
      clear hx
      by_cases e : x = 255
      · subst e
        go_wp2_with fail
        go_round
        case rel => exact ⟨k, by omega, by go_num, Lib.hid (fun j y hj hy => by
          by_cases e : j = k
          · subst e; rw [HQ.out] at hy; injection hy with hy; exact hy.symm
          · exact hf.out j y (by omega) hy)⟩
        case measure => simp [intOf]
      · have e' : (x == 255) = false := by simpa using e
        have hkc : (k : Int) + 1 ≤ c := by have := HI.out.cap; omega
        have HE := Lib.hid (next_at L k x HQ.out (by have := HX.out; omega) (fun j y hj hy => hf.out j y hj hy))
        have HT : Hid (L.take (k + 1) = L.take k ++ [x]) := Lib.hid (by rw [List.take_add_one, HQ.out]; rfl)
        have HK : Hid ((L.take k).length = k) := Lib.hid (by have := HN.out; simp; omega)
        have HB := Lib.hid (slice_high HI.out.bys n (k + 1) c HN.out hk HI.out.cap).2
        rw [HT.out] at HB
        have q0 : 0 ≤ x := HX.out.1
        have q1 : x + 1 ≤ 255 := by have := HX.out.2; omega
        clear e
        go_wp2_with (go_at_call 31; refine (clone_any (some ad) (L.take k ++ [x]) (k + 1) c _ (by rw [List.length_append, HK.out]; rfl) HB.out (by rw [List.length_append, HK.out]; simp; omega) (by omega)).mono ?_; rintro e w1 ⟨A1, c1, rfl, r1, b1⟩; obtain ⟨g, rfl, hg, l0, l1, l2⟩ := row_last r1; rw [HK.out] at l0 l1 l2; have L2 := Lib.hid l2; have B1 := Lib.hid (And.intro hg b1); rw [show (L.take k ++ [x]).length = k + 1 by rw [List.length_append, HK.out]; rfl]; clear r1 b1 l2 hg)
        go_ret
        rw [HE.out]
        exact ⟨_, c1, ret_slice (by rw [List.length_append, HK.out]; rfl), L2.out (x + 1), B1.out.2.setCell B1.out.1 _⟩

set_option maxHeartbeats 2000000 in
theorem refNext_any (A : Option Addr) (L : List Int) (n c : Nat) (w : World) (h : In w A L n c) (hl : n ≤ 140737488351232) :
    Calls Try.prog 20 #[.slice A n c] w (Longer w w.heap.size (nextL L)) := by
  have HI := Lib.hid h
  have HN := Lib.hid h.len
  clear h
  go_enter Try.func20, Try.ntmps20
  go_wp2_with fail
  go_loop [3] (fun t3 => ∃ k : Nat, k ≤ n ∧ t3 = .int .i64 k ∧ Hid (∀ (j : Nat) (y : Int), k ≤ j → L[j]? = some y → y = 255)) (fun t3 => (intOf t3).toNat)
  case atStart => exact ⟨n, by omega, rfl, Lib.hid (fun j y hj hy => by have := (List.getElem?_eq_some_iff.1 hy).1; have := HN.out; omega)⟩
  case round =>
    obtain ⟨k, hk, rfl, hf⟩ := hrel
    cases k with
    | zero =>
      have HE := Lib.hid (next_full L (fun j y hy => hf.out j y (by omega) hy))
      go_wp2_with fail
      go_ret
      rw [HE.out]
      exact ⟨none, 0, rfl, Row.nil _ _, Below.refl _ _⟩
    | succ k =>
      have hx := List.getElem?_eq_getElem (l := L) (i := k) (by have := HN.out; omega)
      have HX := Lib.hid (HI.out.byt _ (List.getElem_mem (l := L) (n := k) (by have := HN.out; omega)))
      generalize L[k]'(by have := HN.out; omega) = x at hx HX
      obtain ⟨ad, rfl, a0⟩ := HI.out.bys.at_ hx
      have HQ := Lib.hid hx
      clear hx
      by_cases e : x = 255
      · subst e
        go_wp2_with fail
        go_round
        case rel => exact ⟨k, by omega, by go_num, Lib.hid (fun j y hj hy => by
          by_cases e : j = k
          · subst e; rw [HQ.out] at hy; injection hy with hy; exact hy.symm
          · exact hf.out j y (by omega) hy)⟩
        case measure => simp [intOf]
      · have e' : (x == 255) = false := by simpa using e
        have hkc : (k : Int) + 1 ≤ c := by have := HI.out.cap; omega
        have HE := Lib.hid (next_at L k x HQ.out (by have := HX.out; omega) (fun j y hj hy => hf.out j y hj hy))
        have HT : Hid (L.take (k + 1) = L.take k ++ [x]) := Lib.hid (by rw [List.take_add_one, HQ.out]; rfl)
        have HK : Hid ((L.take k).length = k) := Lib.hid (by have := HN.out; simp; omega)
        have HB := Lib.hid (slice_high HI.out.bys n (k + 1) c HN.out hk HI.out.cap).2
        rw [HT.out] at HB
        have q0 : 0 ≤ x := HX.out.1
        have q1 : x + 1 ≤ 255 := by have := HX.out.2; omega
        clear e
        have M0 := Lib.hid (row_made w w.heap.size [] #[] rfl (by simp) (Nat.le_refl _))
        have B0 := Lib.hid (below_new w (.cells #[] 5))
        have HB0 := Lib.hid (HB.out.alloc (.cells #[] 5))
        go_wp2_with (at_builtin; refine wpList_append_row _ rfl (.tmp 21) (.tmp 24) rfl w.heap.size _ 0 [] (L.take k ++ [x]) _ 0 (k + 1) c rfl rfl rfl (by rw [List.length_append, HK.out]; rfl) M0.out HB0.out (by simp) (by rw [List.length_append, HK.out]; simp only [List.length_nil, List.length_singleton]; omega) ?_; intro A1 c1 w1 r1 b1; obtain ⟨g, rfl, hg, l0, l1, l2⟩ := row_last r1; rw [HK.out] at l0 l1 l2; have L2 := Lib.hid l2; have B1 := Lib.hid (And.intro hg (B0.out.trans b1)); rw [Nat.zero_add]; clear r1 b1 l2 hg)
        go_ret
        rw [HE.out]
        exact ⟨_, c1, ret_slice (by rw [List.length_append, HK.out]; rfl), L2.out (x + 1), B1.out.2.setCell B1.out.1 _⟩

end Go.Proofs.Ytaedhedbmbmdoaa
