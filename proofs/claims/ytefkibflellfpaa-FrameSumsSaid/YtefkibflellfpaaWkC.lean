/-
  Walks: four bytes of a number, a number of four bytes, by the program and by the document.
-/
import Derived.Test.YtefkibflellfpaaWkB
import Derived.Test.YtefkibflellfpaaFr
import Derived.Deep.QuietTactic
import Derived.BigQuiet
import Derived.Deep.CutRange
import Derived.Deep.Cut
import Derived.Deep.CutBlock
namespace Go.Proofs.Ytefkibflellfpaa
open Go.RowKit

/-- What of a number has been read. -/
def part4 (a b c d : Int) : Nat → Int
  | 0 => 0
  | 1 => a
  | 2 => a + 256 * b
  | 3 => a + 256 * (b + 256 * c)
  | _ => a + 256 * (b + 256 * (c + 256 * d))
theorem or_at (k : Nat) (v x : Int) (hk : k ≤ 24) (v0 : 0 ≤ v) (v1 : v < 2 ^ k) (x0 : 0 ≤ x) (x1 : x * 2 ^ k < 4294967296) : bits .or .u32 v (x * 2 ^ k) = v + x * 2 ^ k := by
  obtain ⟨V, rfl⟩ := Int.eq_ofNat_of_zero_le v0
  obtain ⟨X, rfl⟩ := Int.eq_ofNat_of_zero_le x0
  have e : (X : Int) * 2 ^ k = ((X * 2 ^ k : Nat) : Int) := by simp
  have hp : (2 : Nat) ^ k ≤ 2 ^ 24 := Nat.pow_le_pow_right (by omega) hk
  have v2 : V < 2 ^ k := by exact_mod_cast v1
  rw [e] at x1 ⊢
  rw [u32_or_nat V (X * 2 ^ k) (by omega) (by omega), Nat.or_comm, nat_join k (X * 2 ^ k) V (Nat.mul_mod_left _ _) v2]
  omega

set_option maxHeartbeats 1000000 in
theorem word_any (A : Option Addr) (L : List Int) (n c : Nat) (w : World) (h : In w A L n c) (h4 : 4 ≤ n) :
    Calls Try.prog 22 #[.slice A n c] w fun e w' => e = .returned (.int .u32 (numL L)) ∧ w = w' := by
  obtain ⟨x0, x1, x2, x3, s, rfl⟩ : ∃ x0 x1 x2 x3 s, L = x0 :: x1 :: x2 :: x3 :: s := by
    have := h.len
    match L, this with
    | a :: b :: c :: d :: s, _ => exact ⟨a, b, c, d, s, rfl⟩
    | [], h | [_], h | [_, _], h | [_, _, _], h => simp at h; omega
  obtain ⟨ad, rfl, c0⟩ := in_at h (k := 0) rfl
  obtain ⟨_, e1, c1⟩ := in_at h (k := 1) rfl
  obtain ⟨_, e2, c2⟩ := in_at h (k := 2) rfl
  obtain ⟨_, e3, c3⟩ := in_at h (k := 3) rfl
  injection e1 with e1
  injection e2 with e2
  injection e3 with e3
  subst e1
  subst e2
  subst e3
  rw [show ad.add 0 = ad by simp [Addr.add]] at c0
  have c1' : w.cell? ⟨ad.block, ad.off + 1, none⟩ = some (.int .u8 x1) := c1
  have c2' : w.cell? ⟨ad.block, ad.off + 2, none⟩ = some (.int .u8 x2) := c2
  have c3' : w.cell? ⟨ad.block, ad.off + 3, none⟩ = some (.int .u8 x3) := c3
  have b0 := h.byt x0 (by simp)
  have b1 := h.byt x1 (by simp)
  have b2 := h.byt x2 (by simp)
  have b3 := h.byt x3 (by simp)
  have H : Hid (numL (x0 :: x1 :: x2 :: x3 :: s) = part4 x0 x1 x2 x3 4) := Lib.hid rfl
  obtain ⟨f, hf⟩ : ∃ f, part4 x0 x1 x2 x3 = f := ⟨_, rfl⟩
  have HF := Lib.hid hf
  rw [hf] at H
  have h4' : (4 : Int) ≤ n := by omega
  rw [H.out]
  clear h H hf
  go_enter Try.func22, Try.ntmps22
  go_wp2_with fail
  go_loop [3, 5] (fun t3 t5 => ∃ i : Nat, i ≤ 4 ∧ t5 = .int .i64 i ∧ t3 = .int .u32 (f i)) (fun _ t5 => 4 - (intOf t5).toNat)
  case atStart => exact ⟨0, by omega, rfl, by rw [← HF.out]; rfl⟩
  case round =>
    obtain ⟨i, hi, rfl, rfl⟩ := hrel
    rcases (by omega : i = 0 ∨ i = 1 ∨ i = 2 ∨ i = 3 ∨ i = 4) with rfl | rfl | rfl | rfl | rfl
    · go_wp2_with fail
      go_round
      case rel => exact ⟨1, by omega, rfl, int_val (by rw [← HF.out]; have := or_at 0 0 x0 (by omega) (by omega) (by omega) (by omega) (by omega); simpa [part4] using this)⟩
      case measure => decide
    · go_wp2_with fail
      go_round
      case rel => exact ⟨2, by omega, rfl, int_val (by rw [← HF.out]; have := or_at 8 x0 x1 (by omega) (by omega) (by omega) (by omega) (by omega); simp only [show (2 : Int) ^ 8 = 256 from rfl] at this; simp only [part4]; omega)⟩
      case measure => decide
    · go_wp2_with fail
      go_round
      case rel => exact ⟨3, by omega, rfl, int_val (by rw [← HF.out]; have := or_at 16 (x0 + 256 * x1) x2 (by omega) (by omega) (by omega) (by omega) (by omega); simp only [show (2 : Int) ^ 16 = 65536 from rfl] at this; simp only [part4]; omega)⟩
      case measure => decide
    · go_wp2_with fail
      go_round
      case rel => exact ⟨4, by omega, rfl, int_val (by rw [← HF.out]; have := or_at 24 (x0 + 256 * (x1 + 256 * x2)) x3 (by omega) (by omega) (by omega) (by omega) (by omega); simp only [show (2 : Int) ^ 24 = 16777216 from rfl] at this; simp only [part4]; omega)⟩
      case measure => decide
    · go_wp2_with fail
      go_ret
      exact ⟨rfl, rfl⟩

theorem byt_in {L : List Int} (v : Nat) (h : L = fourL (v : Int)) : Byt L := by subst h; exact fourL_byt _

set_option maxRecDepth 100000 in
set_option maxHeartbeats 2000000 in
theorem appendWord_any (B : Nat) (A : Option Addr) (L : List Int) (n c v : Nat) (w : World) (hn : L.length = n) (h : Row w B A c L) (hB : B ≤ w.heap.size) (hl : n ≤ 140737488355324) (hv : v < 4294967296) :
    Calls Try.prog 26 #[.slice A n c, .int .u32 (v : Nat)] w (Longer w B (L ++ fourL v)) := by
  have HN := Lib.hid hn
  have HR := Lib.hid h
  have HB := Lib.hid hB
  obtain ⟨f, hf⟩ : ∃ f, fourL (v : Int) = f := ⟨_, rfl⟩
  have HF := Lib.hid hf
  rw [hf]
  clear hn h hf hB
  go_enter Try.func26, Try.ntmps26
  go_wp2_with fail
  go_loopw [0, 6] (fun t0 t6 wr => ∃ (i : Nat) (A' : Option Addr) (c' : Nat), i ≤ 4 ∧ t6 = .int .i64 i ∧ t0 = .slice A' (n + i) c' ∧ Hid (Row wr B A' c' (L ++ f.take i)) ∧ Hid (Below B w wr)) (fun _ t6 _ => 4 - (intOf t6).toNat)
  case atStart => exact ⟨0, A, c, by omega, rfl, rfl, Lib.hid (by simpa using HR.out), Lib.hid (Below.refl _ _)⟩
  case round =>
    obtain ⟨i, A', c', hi, rfl, rfl, hr, hb⟩ := hrel
    have hlen : Hid ((L ++ f.take i).length = n + i) := Lib.hid (by rw [List.length_append, HN.out, ← HF.out, List.length_take, fourL_len]; omega)
    rcases (by omega : i = 0 ∨ i = 1 ∨ i = 2 ∨ i = 3 ∨ i = 4) with rfl | rfl | rfl | rfl | rfl
    · have HT : Hid (L ++ f.take 1 = L ++ f.take 0 ++ [(v : Int) % 256]) := Lib.hid (by rw [← HF.out, List.append_assoc]; rfl)
      go_wp2_with (at_builtin; refine wpList_append_row _ rfl (.tmp 9) (.tmp 15) rfl B A' c' (L ++ f.take 0) [(v : Int) % 256] _ (n + 0) 1 1 rfl rfl hlen.out rfl (hr.out.alloc _) (row_made wr B [(v : Int) % 256] #[.int .u8 ((v : Int) % 256)] rfl (by simp) (Nat.le_trans HB.out hb.out.size)).lies (by have := HB.out; have := hb.out.size; simp; omega) (by rw [hlen.out]; simp; omega) ?_; intro A1 c1 w1 r1 b1; have R1 := Lib.hid r1; have B1 := Lib.hid ((hb.out.alloc (Nat.le_trans HB.out hb.out.size) _).trans b1); clear r1 b1)
      go_roundw
      case rel => exact ⟨1, A1, c1, by omega, rfl, rfl, Lib.hid (by rw [HT.out]; exact R1.out), B1⟩
      case measure => decide
    · have HT : Hid (L ++ f.take 2 = L ++ f.take 1 ++ [(v : Int) / 256 % 256]) := Lib.hid (by rw [← HF.out, List.append_assoc]; rfl)
      go_wp2_with (at_builtin; refine wpList_append_row _ rfl (.tmp 9) (.tmp 15) rfl B A' c' (L ++ f.take 1) [(v : Int) / 256 % 256] _ (n + 1) 1 1 rfl rfl hlen.out rfl (hr.out.alloc _) (row_made wr B [(v : Int) / 256 % 256] #[.int .u8 ((v : Int) / 256 % 256)] rfl (by simp) (Nat.le_trans HB.out hb.out.size)).lies (by have := HB.out; have := hb.out.size; simp; omega) (by rw [hlen.out]; simp; omega) ?_; intro A1 c1 w1 r1 b1; have R1 := Lib.hid r1; have B1 := Lib.hid ((hb.out.alloc (Nat.le_trans HB.out hb.out.size) _).trans b1); clear r1 b1)
      go_roundw
      case rel => exact ⟨2, A1, c1, by omega, rfl, rfl, Lib.hid (by rw [HT.out]; exact R1.out), B1⟩
      case measure => decide
    · have HT : Hid (L ++ f.take 3 = L ++ f.take 2 ++ [(v : Int) / 65536 % 256]) := Lib.hid (by rw [← HF.out, List.append_assoc]; rfl)
      go_wp2_with (at_builtin; refine wpList_append_row _ rfl (.tmp 9) (.tmp 15) rfl B A' c' (L ++ f.take 2) [(v : Int) / 65536 % 256] _ (n + 2) 1 1 rfl rfl hlen.out rfl (hr.out.alloc _) (row_made wr B [(v : Int) / 65536 % 256] #[.int .u8 ((v : Int) / 65536 % 256)] rfl (by simp) (Nat.le_trans HB.out hb.out.size)).lies (by have := HB.out; have := hb.out.size; simp; omega) (by rw [hlen.out]; simp; omega) ?_; intro A1 c1 w1 r1 b1; have R1 := Lib.hid r1; have B1 := Lib.hid ((hb.out.alloc (Nat.le_trans HB.out hb.out.size) _).trans b1); clear r1 b1)
      go_roundw
      case rel => exact ⟨3, A1, c1, by omega, rfl, rfl, Lib.hid (by rw [HT.out]; exact R1.out), B1⟩
      case measure => decide
    · have HT : Hid (L ++ f.take 4 = L ++ f.take 3 ++ [(v : Int) / 16777216]) := Lib.hid (by
        have e : (v : Int) / 16777216 % 256 = (v : Int) / 16777216 := by omega
        rw [← HF.out, List.append_assoc, ← e]
        rfl)
      go_wp2_with (at_builtin; refine wpList_append_row _ rfl (.tmp 9) (.tmp 15) rfl B A' c' (L ++ f.take 3) [(v : Int) / 16777216] _ (n + 3) 1 1 rfl rfl hlen.out rfl (hr.out.alloc _) (row_made wr B [(v : Int) / 16777216] #[.int .u8 ((v : Int) / 16777216)] rfl (by simp) (Nat.le_trans HB.out hb.out.size)).lies (by have := HB.out; have := hb.out.size; simp; omega) (by rw [hlen.out]; simp; omega) ?_; intro A1 c1 w1 r1 b1; have R1 := Lib.hid r1; have B1 := Lib.hid ((hb.out.alloc (Nat.le_trans HB.out hb.out.size) _).trans b1); clear r1 b1)
      go_roundw
      case rel => exact ⟨4, A1, c1, by omega, rfl, rfl, Lib.hid (by rw [HT.out]; exact R1.out), B1⟩
      case measure => decide
    · have HL : Hid (L ++ f.take 4 = L ++ f) := Lib.hid (by rw [← HF.out]; rfl)
      go_wp2_with fail
      go_ret
      exact ⟨A', c', ret_slice (by rw [← hlen.out, HL.out]), by rw [← HL.out]; exact hr.out, hb.out⟩

/-- Four bytes, as they lie. -/
theorem four_any (v : Nat) (w : World) (hv : v < 4294967296) :
    Calls Try.prog 27 #[.int .u32 (v : Nat)] w (Longer w w.heap.size (fourL v)) := by
  have e3 : (v : Int) / 16777216 % 256 = (v : Int) / 16777216 := by omega
  have H := Lib.hid (row_made w w.heap.size (fourL v) #[.int .u8 ((v : Int) % 256), .int .u8 ((v : Int) / 256 % 256), .int .u8 ((v : Int) / 65536 % 256), .int .u8 ((v : Int) / 16777216)] (by simp only [fourL, e3, vals, List.map]) (by simp [fourL]) (Nat.le_refl _))
  clear e3
  go_enter Try.func27, Try.ntmps27
  go_wp2
  go_ret
  exact ⟨_, 4, rfl, H.out, below_new _ _⟩

/-- A number, nothing of the world but draws. -/
def NumD (w : World) (v : Int) (e : Ending) (w' : World) : Prop := e = .returned (.int .u32 v) ∧ ∃ k, w' = w.drewN k

set_option maxRecDepth 100000 in
set_option maxHeartbeats 2000000 in
theorem number_any (A : Option Addr) (L : List Int) (n c : Nat) (w : World) (h : In w A L n c) (h4 : 4 ≤ n) :
    Calls Try.prog 24 #[.slice A n c] w (NumD w (numL L)) := by
  obtain ⟨x0, x1, x2, x3, s, rfl⟩ : ∃ x0 x1 x2 x3 s, L = x0 :: x1 :: x2 :: x3 :: s := by
    have := h.len
    match L, this with
    | a :: b :: c :: d :: s, _ => exact ⟨a, b, c, d, s, rfl⟩
    | [], h | [_], h | [_, _], h | [_, _, _], h => simp at h; omega
  obtain ⟨ad, rfl, c0⟩ := in_at h (k := 0) rfl
  obtain ⟨_, e1, c1⟩ := in_at h (k := 1) rfl
  obtain ⟨_, e2, c2⟩ := in_at h (k := 2) rfl
  obtain ⟨_, e3, c3⟩ := in_at h (k := 3) rfl
  injection e1 with e1
  injection e2 with e2
  injection e3 with e3
  subst e1
  subst e2
  subst e3
  rw [show ad.add 0 = ad by simp [Addr.add]] at c0
  have c1' : w.cell? ⟨ad.block, ad.off + 1, none⟩ = some (.int .u8 x1) := c1
  have c2' : w.cell? ⟨ad.block, ad.off + 2, none⟩ = some (.int .u8 x2) := c2
  have c3' : w.cell? ⟨ad.block, ad.off + 3, none⟩ = some (.int .u8 x3) := c3
  obtain ⟨p0, q0⟩ := h.byt x0 (by simp)
  obtain ⟨p1, q1⟩ := h.byt x1 (by simp)
  obtain ⟨p2, q2⟩ := h.byt x2 (by simp)
  obtain ⟨p3, q3⟩ := h.byt x3 (by simp)
  have h1' : (1 : Int) < n := by omega
  have h2' : (2 : Int) < n := by omega
  have h3' : (3 : Int) < n := by omega
  have h0' : (0 : Int) < n := by omega
  have HE : Hid (numL (x0 :: x1 :: x2 :: x3 :: s) = x0 + 256 * (x1 + 256 * (x2 + 256 * x3))) := Lib.hid rfl
  clear h c1 c2 c3
  go_enter Try.func24, Try.ntmps24
  go_upto_region 1 with fail
  go_quiet (fail)
  go_wp2_with fail
  go_ret
  exact ⟨ret_int (by rw [HE.out]), _, rfl⟩

end Go.Proofs.Ytefkibflellfpaa
