/-
  Walks: pieces joined.
-/
import Derived.Test.YtbgolnaljmeneaaWkB
namespace Go.Proofs.Ytbgolnaljmeneaa
open Go.RowKit

/-- Pieces, as slices that lie one behind the other. -/
def Pieces (w : World) (g : Nat) (Ls : List (List Int)) : Prop :=
  ∀ i L, Ls[i]? = some L → ∃ A c, w.cell? ⟨g, i, none⟩ = some (.slice A L.length c) ∧ Bys w A L
theorem Pieces.kept {w w' : World} {g : Nat} {Ls : List (List Int)} (h : Pieces w g Ls) (hb : Below w.heap.size w w') : Pieces w' g Ls := fun i L hi => by
  obtain ⟨A, c, h1, h2⟩ := h i L hi
  refine ⟨A, c, ?_, h2.kept hb⟩
  rw [hb.cell (World.block_lt_of_cell? w _ h1)]
  exact h1
theorem flat_succ {Ls : List (List Int)} {i : Nat} {L : List Int} (h : Ls[i]? = some L) : (Ls.take (i + 1)).flatten = (Ls.take i).flatten ++ L := by
  rw [List.take_add_one, List.flatten_append, h]
  simp
theorem flat_le {Ls : List (List Int)} {i : Nat} : (Ls.take i).flatten.length ≤ Ls.flatten.length := by
  have : Ls.flatten = (Ls.take i).flatten ++ (Ls.drop i).flatten := by rw [← List.flatten_append, List.take_append_drop]
  rw [this]
  simp

set_option maxRecDepth 100000 in
set_option maxHeartbeats 1000000 in
theorem joined_any (g n c : Nat) (Ls : List (List Int)) (w : World) (hn : Ls.length = n) (n9 : n ≤ 9) (h : Pieces w g Ls) (hl : Ls.flatten.length ≤ 281474976710656) :
    Calls Try.prog 23 #[.slice (some ⟨g, 0, none⟩) n c] w (New w Ls.flatten) := by
  have HP := Lib.hid h
  have HL := Lib.hid hl
  have HN := Lib.hid hn
  clear h hl hn
  go_enter Try.func23, Try.ntmps23
  go_wp2_with fail
  go_loop [3, 11] (fun t3 t11 => ∃ i : Nat, i ≤ n ∧ t3 = .int .i64 ((Ls.take i).flatten.length : Int) ∧ t11 = .int .i64 i) (fun _ t11 => n - (intOf t11).toNat)
  case atStart => exact ⟨0, by omega, rfl, rfl⟩
  case round =>
    obtain ⟨i, hi, rfl, rfl⟩ := hrel
    by_cases hlt : i < n
    · obtain ⟨L, hL⟩ : ∃ L, Ls[i]? = some L := ⟨Ls[i]'(by have := HN.out; omega), List.getElem?_eq_getElem _⟩
      obtain ⟨A, cL, c1, hB⟩ := HP.out i L hL
      have fs := flat_succ hL
      have fl := flat_le (Ls := Ls) (i := i + 1)
      have HLl := HL.out
      rw [fs, List.length_append] at fl
      have FS := Lib.hid fs
      obtain ⟨m, hm⟩ : ∃ m, L.length = m := ⟨_, rfl⟩
      have HM := Lib.hid hm
      rw [hm] at c1 fl
      obtain ⟨s, hs⟩ : ∃ s, (Ls.take i).flatten.length = s := ⟨_, rfl⟩
      have HS := Lib.hid hs
      rw [hs] at fl ⊢
      have b1 : (s : Int) + m ≤ 281474976710656 := by omega
      have hij : (i : Int) < n := by omega
      clear hL hB fs hm hs fl HLl
      go_wp2_with fail
      go_round
      case rel => exact ⟨i + 1, by omega, int_eq (by rw [FS.out, List.length_append, HM.out, HS.out]; omega), by go_num⟩
      case measure => simp [intOf]; omega
    · obtain rfl : i = n := by omega
      have hall : (Ls.take i).flatten = Ls.flatten := by rw [← HN.out, List.take_length]
      rw [hall]
      clear hall
      obtain ⟨S, hS⟩ : ∃ S, Ls.flatten.length = S := ⟨_, rfl⟩
      have HS := Lib.hid hS
      rw [hS]
      clear hS
      go_wp2_with (at_make; refine wpList_make_mine _ rfl _ _ rfl S rfl rfl (by rw [← HS.out]; exact HL.out) ?_; intro w1 m1 b1 s1; have M1 := Lib.hid m1; have B1 := Lib.hid b1; have P1 := Lib.hid (HP.out.kept b1); clear m1 b1 s1)
      go_loopw [6, 24] (fun t6 t24 wr => ∃ k : Nat, k ≤ i ∧ t24 = .int .i64 k ∧ t6 = .slice (some ⟨w.heap.size, 0, none⟩) (Ls.take k).flatten.length S ∧ Hid (Mine wr w.heap.size w.heap.size S (Ls.take k).flatten) ∧ Hid (Below w.heap.size w wr)) (fun _ t24 _ => i - (intOf t24).toNat)
      case atStart => exact ⟨0, by omega, rfl, rfl, M1, B1⟩
      case round =>
        obtain ⟨k, hk, rfl, rfl, hM, hBl⟩ := hrel
        by_cases hlk : k < i
        · obtain ⟨L, hL⟩ : ∃ L, Ls[k]? = some L := ⟨Ls[k]'(by have := HN.out; omega), List.getElem?_eq_getElem _⟩
          obtain ⟨A, cL, c1, hB⟩ := (HP.out.kept hBl.out) k L hL
          have HB := Lib.hid hB
          have fs := flat_succ hL
          have fl := flat_le (Ls := Ls) (i := k + 1)
          rw [fs, List.length_append, HS.out] at fl
          have FS := Lib.hid fs
          have FL := Lib.hid fl
          have SZ := Lib.hid hBl.out.size
          have hkj : (k : Int) < i := by omega
          obtain ⟨m, hm⟩ : ∃ m, L.length = m := ⟨_, rfl⟩
          have HM := Lib.hid hm
          rw [hm] at c1
          clear hL hB fs fl hm M1 B1 P1
          go_wp2_with (at_builtin; refine wpList_append_mine _ rfl (.tmp 28) (.tmp 29) rfl w.heap.size w.heap.size S (Ls.take k).flatten L A _ m cL rfl rfl rfl HM.out hM.out HB.out SZ.out (.inl FL.out) ?_; intro g' c' w' m1 m2 m3; obtain ⟨rfl, rfl⟩ := m3 FL.out; have M2 := Lib.hid m1; have B2 := Lib.hid (hBl.out.grown m2 SZ.out (fun k hk => by injection hk with hk; omega)); clear m1 m2 m3)
          go_roundw
          case rel => exact ⟨k + 1, by omega, by go_num, by rw [FS.out]; simp, by rw [FS.out]; exact M2, B2⟩
          case measure => simp [intOf]; omega
        · obtain rfl : k = i := by omega
          have hall : (Ls.take k).flatten = Ls.flatten := by rw [← HN.out, List.take_length]
          rw [hall] at hM ⊢
          clear hall
          go_wp2_with fail
          go_ret
          exact ⟨w.heap.size, S, by simp, hM.out, hBl.out⟩

end Go.Proofs.Ytbgolnaljmeneaa
