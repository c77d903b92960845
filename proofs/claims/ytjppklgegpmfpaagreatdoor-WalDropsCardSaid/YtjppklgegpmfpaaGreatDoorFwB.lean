/-
  Walks: four bytes of a number, a number of four bytes; a payload, put.
-/
import Derived.Test.YtjppklgegpmfpaaGreatDoorFwA
import Derived.Test.YtjppklgegpmfpaaGreatDoorFr
import Derived.Lib.BufferMore
import Derived.Deep.QuietTactic
import Derived.BigQuiet
import Derived.Deep.CutRange
import Derived.Deep.Cut
import Derived.Deep.CutBlock
namespace Go.Proofs.YtjppklgegpmfpaaGreatDoor
open Go.RowKit

theorem ret_slice6 {A : Option Addr} {n m c : Nat} (h : n = m) : Ending.returned (.slice A n c) = .returned (.slice A m c) := by rw [h]
theorem cloneF_any (A : Option Addr) (L : List Int) (n c : Nat) (w : World) (hA : A ≠ none) (hn : L.length = n) (h : Bys w A L) (hl : L.length ≤ 140737488355328) :
    Calls Tryz.prog 30 #[.slice A n c] w (Longer w w.heap.size L) := by
  obtain ⟨ad, rfl⟩ : ∃ ad, A = some ad := Option.ne_none_iff_exists'.1 hA
  have HB := Lib.hid (h.alloc (.cells #[] 5))
  have HL := Lib.hid hl
  have M0 := Lib.hid (row_made w w.heap.size [] #[] rfl (by simp) (Nat.le_refl _))
  have B0 := Lib.hid (below_new w (.cells #[] 5))
  have HN := Lib.hid hn
  clear h hl hn hA
  have hnil := fun W => Go.Lib.run_eql_slice_some_nil (P := Tryz.prog) W ad n c Tryz.underlying35
  go_enter Tryz.func30, Tryz.ntmps30
  go_wp2_with (at_builtin; refine wpList_append_row _ rfl (.tmp 5) (.tmp 6) rfl w.heap.size _ 0 [] L _ 0 n c rfl rfl rfl HN.out M0.out HB.out (by simp) (by have := HL.out; simp only [List.length_nil]; omega) ?_; intro A1 c1 w1 r1 b1; have R1 := Lib.hid r1; have B1 := Lib.hid b1; clear r1 b1)
  go_ret
  exact ⟨A1, c1, ret_slice6 (by have := HN.out; omega), R1.out, B0.out.trans B1.out⟩
/-- What of a number has been read. -/
def part4 (a b c d : Int) : Nat → Int
  | 0 => 0
  | 1 => a
  | 2 => a + 256 * b
  | 3 => a + 256 * (b + 256 * c)
  | _ => a + 256 * (b + 256 * (c + 256 * d))
theorem or_at (k : Nat) (v x : Int) (hk : k ≤ 24) (v0 : 0 ≤ v) (v1 : v < 2 ^ k) (x0 : 0 ≤ x) (x1 : x * 2 ^ k < 4294967296) : bits .or .u32 v (x * 2 ^ k) = v + x * 2 ^ k := by
  obtain ⟨V, rfl⟩ := Int.eq_ofNat_of_zero_le v0
  obtain ⟨X, rfl⟩ := Int.eq_ofNat_of_zero_le x0
  have e : (X : Int) * 2 ^ k = ((X * 2 ^ k : Nat) : Int) := by simp
  have hp : (2 : Nat) ^ k ≤ 2 ^ 24 := Nat.pow_le_pow_right (by omega) hk
  have v2 : V < 2 ^ k := by exact_mod_cast v1
  rw [e] at x1 ⊢
  rw [u32_or_nat V (X * 2 ^ k) (by omega) (by omega), Nat.or_comm, nat_join k (X * 2 ^ k) V (Nat.mul_mod_left _ _) v2]
  omega
set_option maxHeartbeats 1000000 in
theorem word_any (A : Option Addr) (L : List Int) (n c : Nat) (w : World) (h : In w A L n c) (h4 : 4 ≤ n) :
    Calls Tryz.prog 72 #[.slice A n c] w fun e w' => e = .returned (.int .u32 (numL L)) ∧ w = w' := by
  obtain ⟨x0, x1, x2, x3, s, rfl⟩ : ∃ x0 x1 x2 x3 s, L = x0 :: x1 :: x2 :: x3 :: s := by
    have := h.len
    match L, this with
    | a :: b :: c :: d :: s, _ => exact ⟨a, b, c, d, s, rfl⟩
    | [], h | [_], h | [_, _], h | [_, _, _], h => simp at h; omega
  obtain ⟨ad, rfl, c0⟩ := in_at h (k := 0) rfl
  obtain ⟨_, e1, c1⟩ := in_at h (k := 1) rfl
  obtain ⟨_, e2, c2⟩ := in_at h (k := 2) rfl
  obtain ⟨_, e3, c3⟩ := in_at h (k := 3) rfl
  injection e1 with e1
  injection e2 with e2
  injection e3 with e3
  subst e1
  subst e2
  subst e3
  rw [show ad.add 0 = ad by simp [Addr.add]] at c0
  have c1' : w.cell? ⟨ad.block, ad.off + 1, none⟩ = some (.int .u8 x1) := c1
  have c2' : w.cell? ⟨ad.block, ad.off + 2, none⟩ = some (.int .u8 x2) := c2
  have c3' : w.cell? ⟨ad.block, ad.off + 3, none⟩ = some (.int .u8 x3) := c3
  have b0 := h.byt x0 (by simp)
  have b1 := h.byt x1 (by simp)
  have b2 := h.byt x2 (by simp)
  have b3 := h.byt x3 (by simp)
  have H : Hid (numL (x0 :: x1 :: x2 :: x3 :: s) = part4 x0 x1 x2 x3 4) := Lib.hid rfl
  obtain ⟨f, hf⟩ : ∃ f, part4 x0 x1 x2 x3 = f := ⟨_, rfl⟩
  have HF := Lib.hid hf
  rw [hf] at H
  have h4' : (4 : Int) ≤ n := by omega
  rw [H.out]
  clear h H hf
  go_enter Tryz.func72, Tryz.ntmps72
  go_wp2_with fail
  go_loop [3, 5] (fun t3 t5 => ∃ i : Nat, i ≤ 4 ∧ t5 = .int .i64 i ∧ t3 = .int .u32 (f i)) (fun _ t5 => 4 - (intOf t5).toNat)
  case atStart => exact ⟨0, by omega, rfl, by rw [← HF.out]; rfl⟩
  case round =>
    obtain ⟨i, hi, rfl, rfl⟩ := hrel
    rcases (by omega : i = 0 ∨ i = 1 ∨ i = 2 ∨ i = 3 ∨ i = 4) with rfl | rfl | rfl | rfl | rfl
    · go_wp2_with fail
      go_round
      case rel => exact ⟨1, by omega, rfl, int_val (by rw [← HF.out]; have := or_at 0 0 x0 (by omega) (by omega) (by omega) (by omega) (by omega); simpa [part4] using this)⟩
      case measure => decide
    · go_wp2_with fail
      go_round
      case rel => exact ⟨2, by omega, rfl, int_val (by rw [← HF.out]; have := or_at 8 x0 x1 (by omega) (by omega) (by omega) (by omega) (by omega); simp only [show (2 : Int) ^ 8 = 256 from rfl] at this; simp only [part4]; omega)⟩
      case measure => decide
    · go_wp2_with fail
      go_round
      case rel => exact ⟨3, by omega, rfl, int_val (by rw [← HF.out]; have := or_at 16 (x0 + 256 * x1) x2 (by omega) (by omega) (by omega) (by omega) (by omega); simp only [show (2 : Int) ^ 16 = 65536 from rfl] at this; simp only [part4]; omega)⟩
      case measure => decide
    · go_wp2_with fail
      go_round
      case rel => exact ⟨4, by omega, rfl, int_val (by rw [← HF.out]; have := or_at 24 (x0 + 256 * (x1 + 256 * x2)) x3 (by omega) (by omega) (by omega) (by omega) (by omega); simp only [show (2 : Int) ^ 24 = 16777216 from rfl] at this; simp only [part4]; omega)⟩
      case measure => decide
    · go_wp2_with fail
      go_ret
      exact ⟨rfl, rfl⟩
set_option maxRecDepth 100000 in
set_option maxHeartbeats 2000000 in
theorem appendWord_any (B : Nat) (A : Option Addr) (L : List Int) (n c v : Nat) (w : World) (hn : L.length = n) (h : Row w B A c L) (hB : B ≤ w.heap.size) (hl : n ≤ 140737488355324) (hv : v < 4294967296) :
    Calls Tryz.prog 40 #[.slice A n c, .int .u32 (v : Nat)] w (Longer w B (L ++ fourL v)) := by
  have HN := Lib.hid hn
  have HR := Lib.hid h
  have HB := Lib.hid hB
  obtain ⟨f, hf⟩ : ∃ f, fourL (v : Int) = f := ⟨_, rfl⟩
  have HF := Lib.hid hf
  rw [hf]
  clear hn h hf hB
  go_enter Tryz.func40, Tryz.ntmps40
  go_wp2_with fail
  go_loopw [0, 6] (fun t0 t6 wr => ∃ (i : Nat) (A' : Option Addr) (c' : Nat), i ≤ 4 ∧ t6 = .int .i64 i ∧ t0 = .slice A' (n + i) c' ∧ Hid (Row wr B A' c' (L ++ f.take i)) ∧ Hid (Below B w wr)) (fun _ t6 _ => 4 - (intOf t6).toNat)
  case atStart => exact ⟨0, A, c, by omega, rfl, rfl, Lib.hid (by simpa using HR.out), Lib.hid (Below.refl _ _)⟩
  case round =>
    obtain ⟨i, A', c', hi, rfl, rfl, hr, hb⟩ := hrel
    have hlen : Hid ((L ++ f.take i).length = n + i) := Lib.hid (by rw [List.length_append, HN.out, ← HF.out, List.length_take, fourL_len]; omega)
    rcases (by omega : i = 0 ∨ i = 1 ∨ i = 2 ∨ i = 3 ∨ i = 4) with rfl | rfl | rfl | rfl | rfl
    · have HT : Hid (L ++ f.take 1 = L ++ f.take 0 ++ [(v : Int) % 256]) := Lib.hid (by rw [← HF.out, List.append_assoc]; rfl)
      go_wp2_with (at_builtin; refine wpList_append_row _ rfl (.tmp 9) (.tmp 15) rfl B A' c' (L ++ f.take 0) [(v : Int) % 256] _ (n + 0) 1 1 rfl rfl hlen.out rfl (hr.out.alloc _) (row_made wr B [(v : Int) % 256] #[.int .u8 ((v : Int) % 256)] rfl (by simp) (Nat.le_trans HB.out hb.out.size)).lies (by have := HB.out; have := hb.out.size; simp; omega) (by rw [hlen.out]; simp; omega) ?_; intro A1 c1 w1 r1 b1; have R1 := Lib.hid r1; have B1 := Lib.hid ((hb.out.alloc (Nat.le_trans HB.out hb.out.size) _).trans b1); clear r1 b1)
      go_roundw
      case rel => exact ⟨1, A1, c1, by omega, rfl, rfl, Lib.hid (by rw [HT.out]; exact R1.out), B1⟩
      case measure => decide
    · have HT : Hid (L ++ f.take 2 = L ++ f.take 1 ++ [(v : Int) / 256 % 256]) := Lib.hid (by rw [← HF.out, List.append_assoc]; rfl)
      go_wp2_with (at_builtin; refine wpList_append_row _ rfl (.tmp 9) (.tmp 15) rfl B A' c' (L ++ f.take 1) [(v : Int) / 256 % 256] _ (n + 1) 1 1 rfl rfl hlen.out rfl (hr.out.alloc _) (row_made wr B [(v : Int) / 256 % 256] #[.int .u8 ((v : Int) / 256 % 256)] rfl (by simp) (Nat.le_trans HB.out hb.out.size)).lies (by have := HB.out; have := hb.out.size; simp; omega) (by rw [hlen.out]; simp; omega) ?_; intro A1 c1 w1 r1 b1; have R1 := Lib.hid r1; have B1 := Lib.hid ((hb.out.alloc (Nat.le_trans HB.out hb.out.size) _).trans b1); clear r1 b1)
      go_roundw
      case rel => exact ⟨2, A1, c1, by omega, rfl, rfl, Lib.hid (by rw [HT.out]; exact R1.out), B1⟩
      case measure => decide
    · have HT : Hid (L ++ f.take 3 = L ++ f.take 2 ++ [(v : Int) / 65536 % 256]) := Lib.hid (by rw [← HF.out, List.append_assoc]; rfl)
      go_wp2_with (at_builtin; refine wpList_append_row _ rfl (.tmp 9) (.tmp 15) rfl B A' c' (L ++ f.take 2) [(v : Int) / 65536 % 256] _ (n + 2) 1 1 rfl rfl hlen.out rfl (hr.out.alloc _) (row_made wr B [(v : Int) / 65536 % 256] #[.int .u8 ((v : Int) / 65536 % 256)] rfl (by simp) (Nat.le_trans HB.out hb.out.size)).lies (by have := HB.out; have := hb.out.size; simp; omega) (by rw [hlen.out]; simp; omega) ?_; intro A1 c1 w1 r1 b1; have R1 := Lib.hid r1; have B1 := Lib.hid ((hb.out.alloc (Nat.le_trans HB.out hb.out.size) _).trans b1); clear r1 b1)
      go_roundw
      case rel => exact ⟨3, A1, c1, by omega, rfl, rfl, Lib.hid (by rw [HT.out]; exact R1.out), B1⟩
      case measure => decide
    · have HT : Hid (L ++ f.take 4 = L ++ f.take 3 ++ [(v : Int) / 16777216]) := Lib.hid (by
        have e : (v : Int) / 16777216 % 256 = (v : Int) / 16777216 := by omega
        rw [← HF.out, List.append_assoc, ← e]
        rfl)
      go_wp2_with (at_builtin; refine wpList_append_row _ rfl (.tmp 9) (.tmp 15) rfl B A' c' (L ++ f.take 3) [(v : Int) / 16777216] _ (n + 3) 1 1 rfl rfl hlen.out rfl (hr.out.alloc _) (row_made wr B [(v : Int) / 16777216] #[.int .u8 ((v : Int) / 16777216)] rfl (by simp) (Nat.le_trans HB.out hb.out.size)).lies (by have := HB.out; have := hb.out.size; simp; omega) (by rw [hlen.out]; simp; omega) ?_; intro A1 c1 w1 r1 b1; have R1 := Lib.hid r1; have B1 := Lib.hid ((hb.out.alloc (Nat.le_trans HB.out hb.out.size) _).trans b1); clear r1 b1)
      go_roundw
      case rel => exact ⟨4, A1, c1, by omega, rfl, rfl, Lib.hid (by rw [HT.out]; exact R1.out), B1⟩
      case measure => decide
    · have HL : Hid (L ++ f.take 4 = L ++ f) := Lib.hid (by rw [← HF.out]; rfl)
      go_wp2_with fail
      go_ret
      exact ⟨A', c', ret_slice6 (by rw [← hlen.out, HL.out]), by rw [← HL.out]; exact hr.out, hb.out⟩
/-- What Put answers. -/
def putF (p : List Int) : List Int × Int := if 2097152 < p.length then ([], 3) else (putL p, 0)
theorem putF_long {p : List Int} (h : 2097152 < p.length) : putF p = ([], 3) := by unfold putF; rw [if_pos h]
theorem putF_ok {p : List Int} (h : ¬ 2097152 < p.length) : putF p = (putL p, 0) := by unfold putF; rw [if_neg h]
def Wrote (w : World) (p : List Int × Int) (e : Ending) (w' : World) : Prop :=
  ∃ A c, e = .returned (.tuple #[.slice A p.1.length c, .int .i64 p.2]) ∧ Row w' w.heap.size A c p.1 ∧ Below w.heap.size w w'
/-- .. a slice that has grown to so many bytes. -/
def LongerN (w : World) (B : Nat) (L : List Int) (m : Nat) (e : Ending) (w' : World) : Prop := ∃ A c, e = .returned (.slice A m c) ∧ Row w' B A c L ∧ Below B w w'
theorem longer_n {f : FuncId} {args : Array Value} {w : World} {B : Nat} {L M : List Int} {m : Nat} (h : Calls Tryz.prog f args w (Longer w B L)) (hL : L = M) (hm : M.length = m) : Calls Tryz.prog f args w (LongerN w B M m) := by
  subst hL
  subst hm
  exact h
set_option maxRecDepth 100000 in
set_option maxHeartbeats 2000000 in
theorem putF_any (A : Option Addr) (L : List Int) (n c : Nat) (w : World) (h : In w A L n c) :
    Calls Tryz.prog 23 #[.slice A n c] w (Wrote w (putF L)) := by
  have HN := Lib.hid h.len
  by_cases hl : 2097152 < n
  · have hl' : (2097152 : Int) < n := by omega
    have HE := Lib.hid (putF_long (p := L) (by have := HN.out; omega))
    clear h
    go_enter Tryz.func23, Tryz.ntmps23
    go_wp2
    go_ret2
    rw [HE.out]
    exact ⟨none, 0, rfl, Row.nil _ _, Below.refl _ _⟩
  · have hl' : ¬ (2097152 : Int) < n := by omega
    have hl2 : (n : Int) ≤ 2097152 := by omega
    have HE := Lib.hid (putF_ok (p := L) (by have := HN.out; omega))
    have HI := Lib.hid h
    obtain ⟨F, hF⟩ : ∃ F, fourL (n : Int) = F := ⟨_, rfl⟩
    have HF := Lib.hid hF
    have F4 : Hid (F.length = 4) := Lib.hid (by rw [← hF]; rfl)
    have FB : Hid (Byt F) := Lib.hid (by rw [← hF]; exact fourL_byt _)
    obtain ⟨S, hS⟩ : ∃ S, sumL (F ++ L) = S := ⟨_, rfl⟩
    have HS := Lib.hid hS
    have S32 : Hid (S < 4294967296) := Lib.hid (by rw [← hS]; exact sumL_lt _ (FB.out.append HI.out.byt))
    clear h hF hS
    go_enter Tryz.func23, Tryz.ntmps23
    go_upto_region 4 with (at_make; refine wpList_make_mine _ rfl _ _ rfl (8 + n) rfl rfl (by omega) ?_; intro w1 m1 b1 s1; have R1 := Lib.hid m1.row; have B1 := Lib.hid b1; clear m1 b1 s1)
    have W1 := Lib.hid (longer_n (appendWord_any w.heap.size _ [] 0 (8 + n) n w1 rfl R1.out B1.out.size (by omega) (by omega)) (M := F) (by rw [HF.out]; rfl) F4.out)
    go_upto_region 5 with (go_at_call 40; refine W1.out.mono ?_; rintro e w2 ⟨A2, c2, rfl, r2, b2⟩; have R2 := Lib.hid r2; have B2 := Lib.hid (B1.out.trans b2); clear r2 b2)
    have hF4 := F4.out
    have S2 : Hid (Calls Tryz.prog 41 #[.slice (some ⟨w2.heap.size, 0, none⟩) 2 2] (w2.alloc (.cells #[.slice A2 4 c2, .slice A n c] 35)) fun e w' => e = .returned (.int .u32 (S : Nat)) ∧ w2.alloc (.cells #[.slice A2 4 c2, .slice A n c] 35) = w') := Lib.hid (by
      have := sumOf_any (some ⟨w2.heap.size, 0, none⟩) [⟨A2, c2, F⟩, ⟨A, c, L⟩] 2 2 (w2.alloc (.cells #[.slice A2 4 c2, .slice A n c] 35)) rfl (by decide) (lit_lies w2 _ _ (by simp [svals, Sl.val, hF4, HN.out]) _)
        (AllIn.cons ((R2.out.in_ FB.out).kept (below_new w2 _)) (AllIn.cons ((HI.out.kept B2.out).of_n.kept (below_new w2 _)) (AllIn.nil _)))
      have e : (byts [⟨A2, c2, F⟩, ⟨A, c, L⟩]).flatten = F ++ L := by simp [byts]
      rw [e, HS.out] at this
      exact this)
    have B2' := Lib.hid (B2.out.alloc B2.out.size (.cells #[.slice A2 4 c2, .slice A n c] 35))
    have W3 := Lib.hid (appendWord_any w.heap.size A2 F 4 c2 S _ hF4 (R2.out.alloc (.cells #[.slice A2 4 c2, .slice A n c] 35)) B2'.out.size (by omega) S32.out)
    have L8 : Hid ((F ++ fourL (S : Int)).length = 8) := Lib.hid (by rw [List.length_append, F4.out]; rfl)
    have W3 := Lib.hid (longer_n W3.out rfl L8.out)
    clear hF4
    go_upto_region 6 with (first
      | (go_at_call 41; refine S2.out.mono ?_; rintro e w3 ⟨rfl, hw⟩; subst hw)
      | (go_at_call 40; refine W3.out.mono ?_; rintro e w4 ⟨A4, c4, rfl, r4, b4⟩; have R4 := Lib.hid r4; have B4 := Lib.hid (B2'.out.trans b4); clear r4 b4))
    go_wp2_with (at_builtin; refine wpList_append_row _ rfl (.tmp 23) (.tmp 24) rfl w.heap.size A4 c4 (F ++ fourL (S : Int)) L A 8 n c rfl rfl L8.out HN.out R4.out (HI.out.bys.kept B4.out) B4.out.size (by rw [L8.out, HN.out]; omega) ?_; intro A5 c5 w5 r5 b5; have R5 := Lib.hid r5; have B5 := Lib.hid (B4.out.trans b5); clear r5 b5)
    go_ret2
    have HP : F ++ fourL (S : Int) ++ L = putL L := by
      unfold putL
      rw [HN.out, HF.out, HS.out, List.append_assoc]
    have HLn : (putL L).length = 8 + n := by rw [putL_len, HN.out]
    rw [HE.out]
    exact ⟨A5, c5, by show _ = Ending.returned (.tuple #[.slice A5 (putL L).length c5, .int .i64 0]); rw [HLn]; rfl, by rw [← HP]; exact R5.out, B5.out⟩

end Go.Proofs.YtjppklgegpmfpaaGreatDoor
