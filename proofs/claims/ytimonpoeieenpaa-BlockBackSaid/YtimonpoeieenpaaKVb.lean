/-
  Walks: pieces joined; a number appended, by the program and by the document.
-/
import Derived.Test.YtimonpoeieenpaaKVa
namespace Go.Proofs.Ytimonpoeieenpaa
open Go.RowKit

/-- Pieces, as slices that lie one behind the other. -/
def Pieces (w : World) (g : Nat) (Ls : List (List Int)) : Prop :=
  ∀ i L, Ls[i]? = some L → ∃ A c, w.cell? ⟨g, i, none⟩ = some (.slice A L.length c) ∧ Bys w A L
theorem Pieces.kept {w w' : World} {g : Nat} {Ls : List (List Int)} (h : Pieces w g Ls) (hb : Below w.heap.size w w') : Pieces w' g Ls := fun i L hi => by
  obtain ⟨A, c, h1, h2⟩ := h i L hi
  refine ⟨A, c, ?_, h2.kept hb⟩
  rw [hb.cell (World.block_lt_of_cell? w _ h1)]
  exact h1
theorem flat_succ {Ls : List (List Int)} {i : Nat} {L : List Int} (h : Ls[i]? = some L) : (Ls.take (i + 1)).flatten = (Ls.take i).flatten ++ L := by
  rw [List.take_add_one, List.flatten_append, h]
  simp
theorem flat_le {Ls : List (List Int)} {i : Nat} : (Ls.take i).flatten.length ≤ Ls.flatten.length := by
  have : Ls.flatten = (Ls.take i).flatten ++ (Ls.drop i).flatten := by rw [← List.flatten_append, List.take_append_drop]
  rw [this]
  simp
set_option maxRecDepth 100000 in
set_option maxHeartbeats 1000000 in
theorem joined_any (g n c : Nat) (Ls : List (List Int)) (w : World) (hn : Ls.length = n) (n9 : n ≤ 9) (h : Pieces w g Ls) (hl : Ls.flatten.length ≤ 281474976710656) :
    Calls Try.prog 36 #[.slice (some ⟨g, 0, none⟩) n c] w (New w Ls.flatten) := by
  have HP := Lib.hid h
  have HL := Lib.hid hl
  have HN := Lib.hid hn
  clear h hl hn
  go_enter Try.func36, Try.ntmps36
  go_wp2_with fail
  go_loop [3, 11] (fun t3 t11 => ∃ i : Nat, i ≤ n ∧ t3 = .int .i64 ((Ls.take i).flatten.length : Int) ∧ t11 = .int .i64 i) (fun _ t11 => n - (intOf t11).toNat)
  case atStart => exact ⟨0, by omega, rfl, rfl⟩
  case round =>
    obtain ⟨i, hi, rfl, rfl⟩ := hrel
    by_cases hlt : i < n
    · obtain ⟨L, hL⟩ : ∃ L, Ls[i]? = some L := ⟨Ls[i]'(by have := HN.out; omega), List.getElem?_eq_getElem _⟩
      obtain ⟨A, cL, c1, hB⟩ := HP.out i L hL
      have fs := flat_succ hL
      have fl := flat_le (Ls := Ls) (i := i + 1)
      have HLl := HL.out
      rw [fs, List.length_append] at fl
      have FS := Lib.hid fs
      obtain ⟨m, hm⟩ : ∃ m, L.length = m := ⟨_, rfl⟩
      have HM := Lib.hid hm
      rw [hm] at c1 fl
      obtain ⟨s, hs⟩ : ∃ s, (Ls.take i).flatten.length = s := ⟨_, rfl⟩
      have HS := Lib.hid hs
      rw [hs] at fl ⊢
      have b1 : (s : Int) + m ≤ 281474976710656 := by omega
      have hij : (i : Int) < n := by omega
      clear hL hB fs hm hs fl HLl
      go_wp2_with fail
      go_round
      case rel => exact ⟨i + 1, by omega, int_eq (by rw [FS.out, List.length_append, HM.out, HS.out]; omega), by go_num⟩
      case measure => simp [intOf]; omega
    · obtain rfl : i = n := by omega
      have hall : (Ls.take i).flatten = Ls.flatten := by rw [← HN.out, List.take_length]
      rw [hall]
      clear hall
      obtain ⟨S, hS⟩ : ∃ S, Ls.flatten.length = S := ⟨_, rfl⟩
      have HS := Lib.hid hS
      rw [hS]
      clear hS
      go_wp2_with (at_make; refine wpList_make_mine _ rfl _ _ rfl S rfl rfl (by rw [← HS.out]; exact HL.out) ?_; intro w1 m1 b1 s1; have M1 := Lib.hid m1; have B1 := Lib.hid b1; have P1 := Lib.hid (HP.out.kept b1); clear m1 b1 s1)
      go_loopw [6, 24] (fun t6 t24 wr => ∃ k : Nat, k ≤ i ∧ t24 = .int .i64 k ∧ t6 = .slice (some ⟨w.heap.size, 0, none⟩) (Ls.take k).flatten.length S ∧ Hid (Mine wr w.heap.size w.heap.size S (Ls.take k).flatten) ∧ Hid (Below w.heap.size w wr)) (fun _ t24 _ => i - (intOf t24).toNat)
      case atStart => exact ⟨0, by omega, rfl, rfl, M1, B1⟩
      case round =>
        obtain ⟨k, hk, rfl, rfl, hM, hBl⟩ := hrel
        by_cases hlk : k < i
        · obtain ⟨L, hL⟩ : ∃ L, Ls[k]? = some L := ⟨Ls[k]'(by have := HN.out; omega), List.getElem?_eq_getElem _⟩
          obtain ⟨A, cL, c1, hB⟩ := (HP.out.kept hBl.out) k L hL
          have HB := Lib.hid hB
          have fs := flat_succ hL
          have fl := flat_le (Ls := Ls) (i := k + 1)
          rw [fs, List.length_append, HS.out] at fl
          have FS := Lib.hid fs
          have FL := Lib.hid fl
          have SZ := Lib.hid hBl.out.size
          have hkj : (k : Int) < i := by omega
          obtain ⟨m, hm⟩ : ∃ m, L.length = m := ⟨_, rfl⟩
          have HM := Lib.hid hm
          rw [hm] at c1
          clear hL hB fs fl hm M1 B1 P1
          go_wp2_with (at_builtin; refine wpList_append_mine _ rfl (.tmp 28) (.tmp 29) rfl w.heap.size w.heap.size S (Ls.take k).flatten L A _ m cL rfl rfl rfl HM.out hM.out HB.out SZ.out (.inl FL.out) ?_; intro g' c' w' m1 m2 m3; obtain ⟨rfl, rfl⟩ := m3 FL.out; have M2 := Lib.hid m1; have B2 := Lib.hid (hBl.out.grown m2 SZ.out (fun k hk => by injection hk with hk; omega)); clear m1 m2 m3)
          go_roundw
          case rel => exact ⟨k + 1, by omega, by go_num, by rw [FS.out]; simp, by rw [FS.out]; exact M2, B2⟩
          case measure => simp [intOf]; omega
        · obtain rfl : k = i := by omega
          have hall : (Ls.take k).flatten = Ls.flatten := by rw [← HN.out, List.take_length]
          rw [hall] at hM ⊢
          clear hall
          go_wp2_with fail
          go_ret
          exact ⟨w.heap.size, S, by simp, hM.out, hBl.out⟩
theorem pieces_two {w : World} {A C : Option Addr} {L M : List Int} {n m c d : Nat} (hn : L.length = n) (hm : M.length = m) (h : Bys w A L) (k : Bys w C M) :
    Pieces (w.alloc (.cells #[.slice A n c, .slice C m d] 24)) w.heap.size [L, M] := fun i X hi => by
  subst hn
  subst hm
  match i, hi with
  | 0, hi =>
    obtain rfl : L = X := by simpa using hi
    exact ⟨A, c, cell_of_row _ _ 0 _ _ _ (heap_alloc_new w _), h.alloc _⟩
  | 1, hi =>
    obtain rfl : M = X := by simpa using hi
    exact ⟨C, d, cell_of_row _ _ 1 _ _ _ (heap_alloc_new w _), k.alloc _⟩
  | i + 2, hi => simp at hi
/-- What a call answers behind an allocation of its caller. -/
theorem New.later {w w1 w2 : World} {L M : List Int} {e : Ending} {o : Obj} (h : New (w1.alloc o) L e w2) (hb : Below w.heap.size w w1) (he : L = M) : New w M e w2 := by
  subst he
  obtain ⟨g, c, rfl, h1, h2⟩ := h
  have hs : w.heap.size ≤ (w1.alloc o).heap.size := by have := hb.size; rw [World.size_alloc]; omega
  exact ⟨g, c, rfl, h1.mono hs, (hb.alloc hb.size o).trans (h2.mono hs)⟩
set_option maxRecDepth 100000 in
theorem appendUint_any (A : Option Addr) (L : List Int) (n c : Nat) (v : Int) (w : World) (hn : L.length = n) (h : Bys w A L) (h0 : 0 ≤ v) (h1 : v ≤ 18446744073709551615) (hl : L.length + (digs v).length ≤ 281474976710656) :
    Calls Try.prog 31 #[.slice A n c, .int .u64 v] w (New w (L ++ digs v)) := by
  have HB := Lib.hid h
  have HN := Lib.hid hn
  have HL := Lib.hid hl
  have HF := Lib.hid (fun w => form_any v w h0 h1)
  clear h hn hl h0 h1
  go_enter Try.func31, Try.ntmps31
  go_wp2_with (first
    | (go_at_call 37; refine (HF.out _).mono ?_; rintro e w1 ⟨g1, rfl, f1, b1⟩; have P1 := Lib.hid (pieces_two (c := c) (d := (digs v).length) HN.out rfl (HB.out.kept b1) f1); have B1 := Lib.hid b1; clear f1 b1)
    | (go_at_call 36; refine (joined_any _ 2 _ [L, digs v] _ rfl (by omega) P1.out (by simpa using HL.out)).mono ?_; rintro e w2 hw; have hw' := hw.later (M := L ++ digs v) B1.out (by simp); obtain ⟨g2, c2, rfl, m2, b2⟩ := hw'; have M2 := Lib.hid m2; have B2 := Lib.hid b2; clear hw m2 b2))
  go_ret
  exact ⟨g2, c2, by simp, M2.out, B2.out⟩
theorem new_one (w : World) (x : Int) : Bys (w.alloc (.cells #[.int .u8 x] 5)) (some ⟨w.heap.size, 0, none⟩) [x] :=
  (mine_new w [x] #[.int .u8 x] rfl (by unfold maxLen; simp)).bys
set_option maxRecDepth 100000 in
set_option maxHeartbeats 1000000 in
theorem appendUintR_any (A : Option Addr) (L : List Int) (n c : Nat) (v : Int) (w : World) (hn : L.length = n) (h : Bys w A L) (h0 : 0 ≤ v) (h1 : v ≤ 18446744073709551615) (hl : L.length + 10 ≤ 140737488355328) :
    Calls Try.prog 24 #[.slice A n c, .int .u64 v] w (New w (L ++ digs v)) := by
  have HB := Lib.hid h
  have HN := Lib.hid hn
  have HL := Lib.hid hl
  clear h hn hl
  go_enter Try.func24, Try.ntmps24
  go_wp2_with (go_at_call 32; refine (copy_any A L n c _ HN.out HB.out (by have := HL.out; omega)).mono ?_; rintro e w1 ⟨g1, c1, rfl, m1, b1⟩; have M1 := Lib.hid m1; have B1 := Lib.hid b1; clear m1 b1)
  go_loopw [1, 5] (fun t1 t5 wr => ∃ (P : List Int) (f : Nat) (u : Int) (g c : Nat), P.length + f = 9 ∧ t1 = .int .u64 u ∧ t5 = .slice (some ⟨g, 0, none⟩) (L ++ P).length c ∧ 0 ≤ u ∧ u < 128 ^ (f + 1) ∧ u ≤ 18446744073709551615 ∧ Hid (P ++ digsF f u = digs v) ∧ Hid (Mine wr w.heap.size g c (L ++ P)) ∧ Hid (Below w.heap.size w wr)) (fun t1 _ _ => (intOf t1).toNat)
  case atStart =>
    exact ⟨[], 9, v, g1, c1, rfl, rfl, by simp, h0, by omega, h1, Lib.hid rfl, Lib.hid (by simpa using M1.out), B1⟩
  case round =>
    obtain ⟨P, f, u, g, cg, hf, rfl, rfl, u0, u1, u2, hp, hm, hb⟩ := hrel
    have SZ := Lib.hid hb.out.size
    have RM : Hid (Room (L ++ P).length cg 1) := Lib.hid (.inr (.inl (by have := HL.out; simp; omega)))
    clear M1 B1
    by_cases hlt : u < 128
    · have e1 : IntKind.u8.wrap u = u := by rw [IntKind.wrap_u8]; omega
      have NO := Lib.hid (new_one wr u)
      go_wp2_with (at_builtin; refine wpList_append_mine _ rfl (.tmp 19) (.tmp 22) rfl w.heap.size g cg (L ++ P) [u] _ _ _ _ rfl rfl rfl rfl (hm.out.alloc _) NO.out (by have := SZ.out; rw [World.size_alloc]; omega) RM.out ?_; intro g' c' w' m1 m2 m3; have M2 := Lib.hid m1; have B2 : Hid (Below w.heap.size w w') := Lib.hid ((hb.out.alloc SZ.out _).grown m2 (by have := SZ.out; rw [World.size_alloc]; omega) (fun k hk => by injection hk with hk; have := hm.out.lt.1; omega)); clear m1 m2 m3)
      go_ret
      have hd : L ++ digs v = (L ++ P) ++ [u] := by rw [← hp.out, digsF_low _ _ hlt, List.append_assoc]
      refine ⟨g', c', by rw [hd]; simp, by rw [hd]; exact M2.out, B2.out⟩
    · have e1 : IntKind.u8.wrap (u % 128 + 128) = u % 128 + 128 := by rw [IntKind.wrap_u8]; omega
      have NO := Lib.hid (new_one wr (u % 128 + 128))
      go_wp2_with (at_builtin; refine wpList_append_mine _ rfl (.tmp 10) (.tmp 15) rfl w.heap.size g cg (L ++ P) [u % 128 + 128] _ _ _ _ rfl rfl rfl rfl (hm.out.alloc _) NO.out (by have := SZ.out; rw [World.size_alloc]; omega) RM.out ?_; intro g' c' w' m1 m2 m3; have M2 := Lib.hid m1; have B2 : Hid (Below w.heap.size w w') := Lib.hid ((hb.out.alloc SZ.out _).grown m2 (by have := SZ.out; rw [World.size_alloc]; omega) (fun k hk => by injection hk with hk; have := hm.out.lt.1; omega)); clear m1 m2 m3)
      go_roundw
      case rel =>
        obtain ⟨f', rfl⟩ : ∃ f', f = f' + 1 := ⟨f - 1, by
          have : f ≠ 0 := fun e => by subst e; omega
          omega⟩
        refine ⟨P ++ [u % 128 + 128], f', u / 128, g', c', by simp; omega, rfl, by simp, by omega, ?_, by omega, Lib.hid ?_, Lib.hid (by rw [← List.append_assoc]; exact M2.out), B2⟩
        · rw [Int.pow_succ] at u1
          generalize (128 : Int) ^ (f' + 1) = Q at *
          omega
        · rw [List.append_assoc, List.singleton_append, ← digsF_high _ _ hlt, hp.out]
      case measure => simp [intOf]; omega

end Go.Proofs.Ytimonpoeieenpaa
