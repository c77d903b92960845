/-
  Walks: what is appended, by the document.
-/
import Derived.Test.YtbgolnaljmeneaaWkD
namespace Go.Proofs.Ytbgolnaljmeneaa
open Go.RowKit

theorem new_one (w : World) (x : Int) : Bys (w.alloc (.cells #[.int .u8 x] 5)) (some ⟨w.heap.size, 0, none⟩) [x] :=
  (mine_new w [x] #[.int .u8 x] rfl (by unfold maxLen; simp)).bys

set_option maxRecDepth 100000 in
set_option maxHeartbeats 1000000 in
theorem appendUintR_any (A : Option Addr) (L : List Int) (n c : Nat) (v : Int) (w : World) (hn : L.length = n) (h : Bys w A L) (h0 : 0 ≤ v) (h1 : v ≤ 18446744073709551615) (hl : L.length + 10 ≤ 140737488355328) :
    Calls Try.prog 12 #[.slice A n c, .int .u64 v] w (New w (L ++ digs v)) := by
  have HB := Lib.hid h
  have HN := Lib.hid hn
  have HL := Lib.hid hl
  clear h hn hl
  go_enter Try.func12, Try.ntmps12
  go_wp2_with (go_at_call 25; refine (copy_any A L n c _ HN.out HB.out (by have := HL.out; omega)).mono ?_; rintro e w1 ⟨g1, c1, rfl, m1, b1⟩; have M1 := Lib.hid m1; have B1 := Lib.hid b1; clear m1 b1)
  go_loopw [1, 5] (fun t1 t5 wr => ∃ (P : List Int) (f : Nat) (u : Int) (g c : Nat), P.length + f = 9 ∧ t1 = .int .u64 u ∧ t5 = .slice (some ⟨g, 0, none⟩) (L ++ P).length c ∧ 0 ≤ u ∧ u < 128 ^ (f + 1) ∧ u ≤ 18446744073709551615 ∧ Hid (P ++ digsF f u = digs v) ∧ Hid (Mine wr w.heap.size g c (L ++ P)) ∧ Hid (Below w.heap.size w wr)) (fun t1 _ _ => (intOf t1).toNat)
  case atStart =>
    exact ⟨[], 9, v, g1, c1, rfl, rfl, by simp, h0, by omega, h1, Lib.hid rfl, Lib.hid (by simpa using M1.out), B1⟩
  case round =>
    obtain ⟨P, f, u, g, cg, hf, rfl, rfl, u0, u1, u2, hp, hm, hb⟩ := hrel
    have SZ := Lib.hid hb.out.size
    have RM : Hid (Room (L ++ P).length cg 1) := Lib.hid (.inr (.inl (by have := HL.out; simp; omega)))
    clear M1 B1
    by_cases hlt : u < 128
    · have e1 : IntKind.u8.wrap u = u := by rw [IntKind.wrap_u8]; omega
      have NO := Lib.hid (new_one wr u)
      go_wp2_with (at_builtin; refine wpList_append_mine _ rfl (.tmp 19) (.tmp 22) rfl w.heap.size g cg (L ++ P) [u] _ _ _ _ rfl rfl rfl rfl (hm.out.alloc _) NO.out (by have := SZ.out; rw [World.size_alloc]; omega) RM.out ?_; intro g' c' w' m1 m2 m3; have M2 := Lib.hid m1; have B2 : Hid (Below w.heap.size w w') := Lib.hid ((hb.out.alloc SZ.out _).grown m2 (by have := SZ.out; rw [World.size_alloc]; omega) (fun k hk => by injection hk with hk; have := hm.out.lt.1; omega)); clear m1 m2 m3)
      go_ret
      have hd : L ++ digs v = (L ++ P) ++ [u] := by rw [← hp.out, digsF_low _ _ hlt, List.append_assoc]
      refine ⟨g', c', by rw [hd]; simp, by rw [hd]; exact M2.out, B2.out⟩
    · have e1 : IntKind.u8.wrap (u % 128 + 128) = u % 128 + 128 := by rw [IntKind.wrap_u8]; omega
      have NO := Lib.hid (new_one wr (u % 128 + 128))
      go_wp2_with (at_builtin; refine wpList_append_mine _ rfl (.tmp 10) (.tmp 15) rfl w.heap.size g cg (L ++ P) [u % 128 + 128] _ _ _ _ rfl rfl rfl rfl (hm.out.alloc _) NO.out (by have := SZ.out; rw [World.size_alloc]; omega) RM.out ?_; intro g' c' w' m1 m2 m3; have M2 := Lib.hid m1; have B2 : Hid (Below w.heap.size w w') := Lib.hid ((hb.out.alloc SZ.out _).grown m2 (by have := SZ.out; rw [World.size_alloc]; omega) (fun k hk => by injection hk with hk; have := hm.out.lt.1; omega)); clear m1 m2 m3)
      go_roundw
      case rel =>
        obtain ⟨f', rfl⟩ : ∃ f', f = f' + 1 := ⟨f - 1, by
          have : f ≠ 0 := fun e => by subst e; omega
          omega⟩
        refine ⟨P ++ [u % 128 + 128], f', u / 128, g', c', by simp; omega, rfl, by simp, by omega, ?_, by omega, Lib.hid ?_, Lib.hid (by rw [← List.append_assoc]; exact M2.out), B2⟩
        · rw [Int.pow_succ] at u1
          generalize (128 : Int) ^ (f' + 1) = Q at *
          omega
        · rw [List.append_assoc, List.singleton_append, ← digsF_high _ _ hlt, hp.out]
      case measure => simp [intOf]; omega

theorem appendIntR_any (A : Option Addr) (L : List Int) (n c : Nat) (v : Int) (w : World) (hn : L.length = n) (h : Bys w A L) (h0 : -9223372036854775808 ≤ v) (h1 : v ≤ 9223372036854775807) (hl : L.length + 10 ≤ 140737488355328) :
    Calls Try.prog 14 #[.slice A n c, .int .i64 v] w (New w (L ++ digs (zig v))) := by
  have HA := Lib.hid (appendUintR_any A L n c (zig v) w hn h (zig_bd v h0 h1).1 (zig_bd v h0 h1).2 hl)
  clear h hn hl
  by_cases hv : 0 ≤ v
  · have e1 : IntKind.u64.wrap v = v := by rw [IntKind.wrap_u64]; omega
    have e2 : IntKind.u64.wrap (2 * v) = 2 * v := by rw [IntKind.wrap_u64]; omega
    have ez : zig v = 2 * v := by unfold zig; rw [if_pos hv]
    rw [ez] at HA ⊢
    clear ez
    go_enter Try.func14, Try.ntmps14
    go_wp2_with (go_at_call 12; refine HA.out.mono ?_; rintro e w1 ⟨g1, c1, rfl, m1, b1⟩; have M1 := Lib.hid m1; have B1 := Lib.hid b1; clear m1 b1)
    go_ret
    exact ⟨g1, c1, by simp, M1.out, B1.out⟩
  · have e1 : IntKind.u64.wrap (-(v + 1)) = -v - 1 := by rw [IntKind.wrap_u64]; omega
    have e2 : IntKind.u64.wrap (2 * (-v - 1)) = -2 * v - 2 := by rw [IntKind.wrap_u64]; omega
    have e3 : IntKind.u64.wrap (-2 * v - 2 + 1) = -2 * v - 1 := by rw [IntKind.wrap_u64]; omega
    have ez : zig v = -2 * v - 1 := by unfold zig; rw [if_neg hv]
    have hv' : v < 0 := by omega
    rw [ez] at HA ⊢
    clear ez
    go_enter Try.func14, Try.ntmps14
    go_wp2_with (go_at_call 12; refine HA.out.mono ?_; rintro e w1 ⟨g1, c1, rfl, m1, b1⟩; have M1 := Lib.hid m1; have B1 := Lib.hid b1; clear m1 b1)
    go_ret
    exact ⟨g1, c1, by simp, M1.out, B1.out⟩

set_option maxRecDepth 100000 in
theorem appendBytesR_any (A C : Option Addr) (L X : List Int) (n c m d : Nat) (w : World) (hn : L.length = n) (hm : X.length = m) (h : Bys w A L) (k : Bys w C X) (hl : L.length + 10 + X.length ≤ 140737488355328) :
    Calls Try.prog 16 #[.slice A n c, .slice C m d] w (New w (L ++ (digs m ++ X))) := by
  have HA := Lib.hid (appendUintR_any A L n c (m : Int) w hn h (by omega) (by omega) (by omega))
  have e1 : IntKind.u64.wrap (m : Int) = m := by rw [IntKind.wrap_u64]; omega
  have HK := Lib.hid k
  have HM := Lib.hid hm
  have HL := Lib.hid hl
  have HD := Lib.hid (digs_len m).2
  clear h hn hl k hm
  go_enter Try.func16, Try.ntmps16
  go_wp2_with (first
    | (go_at_call 12; refine HA.out.mono ?_; rintro e w1 ⟨g1, c1, rfl, m1, b1⟩; have M1 := Lib.hid m1; have B1 := Lib.hid b1; clear m1 b1)
    | (at_builtin; refine wpList_append_mine _ rfl (.tmp 9) (.tmp 10) rfl w.heap.size g1 c1 (L ++ digs m) X C _ m d rfl rfl List.length_append HM.out M1.out (HK.out.kept B1.out) B1.out.size (.inr (.inl (by have := HL.out; have := HD.out; simp; omega))) ?_; intro g' c' w' m1 m2 m3; have M2 := Lib.hid m1; have B2 : Hid (Below w.heap.size w w') := Lib.hid (B1.out.grown m2 B1.out.size (fun k hk => by injection hk with hk; have := M1.out.lt.1; omega)); clear m1 m2 m3))
  go_ret
  exact ⟨g', c', by simp, by rw [← List.append_assoc]; exact M2.out, B2.out⟩

end Go.Proofs.Ytbgolnaljmeneaa
