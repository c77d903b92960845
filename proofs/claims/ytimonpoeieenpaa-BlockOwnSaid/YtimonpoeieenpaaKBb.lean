/-
  Walks: bytes compared, told alike, copied; a pair told by what it shares.
-/
import Derived.Test.YtimonpoeieenpaaKBa
namespace Go.Proofs.Ytimonpoeieenpaa
open Go.RowKit

theorem bytesOf_any {w : World} {A : Option Addr} {L : List Int} (h : Bys w A L) (n c : Nat) (hn : L.length = n) : (Extern.Bytes.bytesOf (.slice A n c)).run Try.prog w = .ok ⟨(Lib.bytesOf L).toArray⟩ w := by
  subst hn
  rcases h with rfl | ⟨ad, rfl, hc⟩
  · cases A with
    | none => rfl
    | some ad => rfl
  · have := Lib.run_loadBytesX (P := Try.prog) w L ad .empty hc
    rw [show (ByteArray.empty.data ++ (Lib.bytesOf L).toArray) = (Lib.bytesOf L).toArray from by (simp [ByteArray.empty, ByteArray.emptyWithCapacity]; try rfl)] at this
    exact this
theorem cmp_nums : ∀ L M : List Int, Byt L → Byt M → Lib.compareBytes (Lib.bytesOf L) (Lib.bytesOf M) = cmpL L M
  | [], [], _, _ => rfl
  | [], _ :: _, _, _ => rfl
  | _ :: _, [], _, _ => rfl
  | x :: s, y :: t, h, g => by
    have ih := cmp_nums s t h.tail g.tail
    obtain ⟨x0, x1⟩ := h.head
    obtain ⟨y0, y1⟩ := g.head
    have e : Lib.bytesOf (x :: s) = x.toNat.toUInt8 :: Lib.bytesOf s := rfl
    have e' : Lib.bytesOf (y :: t) = y.toNat.toUInt8 :: Lib.bytesOf t := rfl
    have lt : ∀ a b : Int, 0 ≤ a → a < 256 → 0 ≤ b → b < 256 → (a.toNat.toUInt8 < b.toNat.toUInt8 ↔ a < b) := fun a b a0 a1 b0 b1 => by
      rw [UInt8.lt_iff_toNat_lt]
      have e1 : a.toNat.toUInt8.toNat = a.toNat := by rw [Nat.toUInt8, UInt8.toNat_ofNat']; omega
      have e2 : b.toNat.toUInt8.toNat = b.toNat := by rw [Nat.toUInt8, UInt8.toNat_ofNat']; omega
      rw [e1, e2]
      omega
    rw [e, e']
    unfold Lib.compareBytes cmpL
    rcases Int.lt_trichotomy x y with k | k | k
    · rw [if_pos ((lt x y x0 x1 y0 y1).2 k), if_pos k]
    · subst k
      rw [if_neg (fun q => Int.lt_irrefl _ ((lt x x x0 x1 y0 y1).1 q)), if_neg (fun q => Int.lt_irrefl _ ((lt x x x0 x1 y0 y1).1 q)), if_neg (by omega), if_neg (by omega)]
      exact ih
    · rw [if_neg (fun q => by have := (lt x y x0 x1 y0 y1).1 q; omega), if_pos ((lt y x y0 y1 x0 x1).2 k), if_neg (by omega), if_pos k]
theorem run_bytealg {w : World} {A C : Option Addr} {L M : List Int} (h : Bys w A L) (g : Bys w C M) (hL : Byt L) (hM : Byt M) (n m c d : Nat) (hn : L.length = n) (hm : M.length = m) :
    (Extern.BytealgCompare.compare #[.slice A n c, .slice C m d]).run Try.prog w = .ok (.int .i64 (cmpL L M)) w := by
  change Sem.run Try.prog (do pure (goInt (Extern.BytealgCompare.cmp (← Extern.Bytes.bytesOf (.slice A n c)) (← Extern.Bytes.bytesOf (.slice C m d))))) w = _
  simp only [Sem.run_bind, Sem.run_pure, bytesOf_any h n c hn, bytesOf_any g m d hm, Result.andThen]
  rw [Lib.cmp_eq, ← cmp_nums L M hL hM]
  rfl
set_option maxRecDepth 100000 in
theorem compare_any (A C : Option Addr) (L M : List Int) (n m c d : Nat) (w : World) (h : In w A L n c) (g : In w C M m d) :
    Calls Try.prog 30 #[.slice A n c, .slice C m d] w fun e w' => e = .returned (.int .i64 (cmpL L M)) ∧ w' = w := by
  have HR := run_bytealg h.bys g.bys h.byt g.byt n m c d h.len g.len
  clear h g
  go_enter Try.func30, Try.ntmps30
  go_wp2
  rw [run_callFunc_extern Try.func35 (by kernel_rfl) (by kernel_rfl) (by kernel_rfl) (e := Extern.BytealgCompare.compare) (by kernel_rfl), HR]
  simp only [Result.andThen]
  rw [Oper.upon_value]
  go_wp2
  go_ret
  exact ⟨rfl, rfl⟩
theorem toList_ne {s t : ByteArray} (h : s ≠ t) : (s.toList == t.toList) = false := by
  rw [ByteArray.toList_eq, ByteArray.toList_eq]
  obtain ⟨⟨l⟩⟩ := s
  obtain ⟨⟨m⟩⟩ := t
  simpa using h
theorem toList_dec {L M : List Int} (hL : Byt L) (hM : Byt M) : ((strOfNums L).toList == (strOfNums M).toList) = decide (L = M) := by
  by_cases e : L = M
  · subst e; simp
  · rw [toList_ne (fun h => e ((str_of_inj hL hM).1 h))]
    simp [e]
theorem ret_bool {a b : Bool} (h : a = b) : Ending.returned (.bool a) = .returned (.bool b) := by rw [h]
theorem equal_any (A C : Option Addr) (L M : List Int) (n m c d : Nat) (w : World) (h : In w A L n c) (g : In w C M m d) :
    Calls Try.prog 26 #[.slice A n c, .slice C m d] w fun e w' => e = .returned (.bool (decide (L = M))) ∧ w' = w := by
  have k1 := conv_any h.bys n c h.len
  have k2 := conv_any g.bys m d g.len
  have HD := Lib.hid (toList_dec h.byt g.byt)
  clear h g
  go_enter Try.func26, Try.ntmps26
  go_wp2
  go_ret
  exact ⟨ret_bool HD.out, rfl⟩
theorem sameB_any (A C : Option Addr) (L M : List Int) (n m c d : Nat) (w : World) (h : In w A L n c) (g : In w C M m d) :
    Calls Try.prog 11 #[.slice A n c, .slice C m d] w fun e w' => e = .returned (.bool (decide (L = M))) ∧ w' = w := by
  have k1 := conv_any h.bys n c h.len
  have k2 := conv_any g.bys m d g.len
  have HD := Lib.hid (toList_dec h.byt g.byt)
  clear h g
  go_enter Try.func11, Try.ntmps11
  go_wp2
  go_ret
  exact ⟨ret_bool HD.out, rfl⟩
theorem clone_any (A : Option Addr) (L : List Int) (n c : Nat) (w : World) (hn : L.length = n) (h : Bys w A L) (hl : L.length ≤ 140737488355328) :
    Calls Try.prog 27 #[.slice A n c] w (Longer w w.heap.size L) := by
  have HN := Lib.hid hn
  by_cases hA : A = none
  · subst hA
    obtain rfl : L = [] := by
      rcases h with h | ⟨ad, e, -⟩
      · exact h
      · cases e
    obtain rfl : n = 0 := hn.symm
    have hnil := fun W => Go.Lib.run_eql_slice_nil_nil (P := Try.prog) W 0 c Try.underlying24
    clear h hn hl
    go_enter Try.func27, Try.ntmps27
    go_wp2
    go_ret
    exact ⟨none, 0, rfl, Row.nil _ _, Below.refl _ _⟩
  · obtain ⟨ad, rfl⟩ : ∃ ad, A = some ad := Option.ne_none_iff_exists'.1 hA
    have HB := Lib.hid (h.alloc (.cells #[] 5))
    have HL := Lib.hid hl
    have M0 := Lib.hid (row_made w w.heap.size [] #[] rfl (by simp) (Nat.le_refl _))
    have B0 := Lib.hid (below_new w (.cells #[] 5))
    clear h hl hn hA
    have hnil := fun W => Go.Lib.run_eql_slice_some_nil (P := Try.prog) W ad n c Try.underlying24
    go_enter Try.func27, Try.ntmps27
    go_wp2_with (at_builtin; refine wpList_append_row _ rfl (.tmp 5) (.tmp 6) rfl w.heap.size _ 0 [] L _ 0 n c rfl rfl rfl HN.out M0.out HB.out (by simp) (by have := HL.out; simp only [List.length_nil]; omega) ?_; intro A1 c1 w1 r1 b1; have R1 := Lib.hid r1; have B1 := Lib.hid b1; clear r1 b1)
    go_ret
    exact ⟨A1, c1, ret_slice (by have := HN.out; omega), R1.out, B0.out.trans B1.out⟩

/-- It answers a bool, and makes new memory alone. -/
def Tells (w : World) (b : Bool) (e : Ending) (w' : World) : Prop := e = .returned (.bool b) ∧ Below w.heap.size w w'
def packV (x : Nat) (A C : Option Addr) (n c m d : Nat) : Value := .agg #[.int .i64 x, .slice A n c, .slice C m d]

theorem In.low {w : World} {A : Option Addr} {L : List Int} {a k c : Nat} (h : In w A L (a + k) c) :
    ∃ A', (∀ W, (Instr.slice 24 (.slice A (a + k) c) (some (.int .i64 (a : Int))) none none).run Try.prog W = .ok (.slice A' k (c - a)) W) ∧ In w A' (L.drop a) k (c - a) := by
  obtain ⟨A', h1, h2⟩ := slice_low h.bys a k c h.len h.cap
  have := h.cap
  have := h.top
  exact ⟨A', h1, by rw [List.length_drop, h.len]; omega, by omega, by omega, h2, h.byt.drop a⟩
theorem gt_one (L M : List Int) : decide (0 < cmpL L M) = decide (cmpL L M = 1) := by
  rcases cmpL_three L M with h | h | h <;> rw [h] <;> rfl

set_option maxRecDepth 100000 in
theorem rises_any (x k : Nat) (A C E : Option Addr) (L K : List Int) (n c m d f : Nat) (w : World) (h : In w A L n c) (g : In w E K (x + k) f) :
    Calls Try.prog 20 #[.agg #[.int .i64 x, .slice A n c, .slice C m d], .slice E (x + k) f] w (Tells w (decide (cmpL L (K.drop x) = 1))) := by
  have B1 := Lib.hid (below_new w (.cells #[.int .i64 x, .slice A n c, .slice C m d] 47))
  obtain ⟨E', hsl, hE⟩ := (g.kept B1.out).low
  have HC := Lib.hid (fun q => compare_any A E' L (K.drop x) n k c (f - x) ((w.alloc (.cells #[.int .i64 x, .slice A n c, .slice C m d] 47)).drewN q) ((h.kept B1.out).kept (below_drewN (Below.refl _ _) q)) (hE.kept (below_drewN (Below.refl _ _) q)))
  have HG := Lib.hid (gt_one L (K.drop x))
  generalize cmpL L (K.drop x) = z at HC HG ⊢
  clear h g hE
  go_enter Try.func20, Try.ntmps20
  go_upto_region 1 with fail
  go_quiet (first | (go_at_call 30; refine Calls.quiet_of_same (HC.out _)))
  go_wp2_with fail
  go_ret
  exact ⟨ret_bool HG.out, below_drewN B1.out _⟩
set_option maxRecDepth 100000 in
theorem sharesMore_any (x k : Nat) (A C E : Option Addr) (L K : List Int) (n c m d f : Nat) (w : World) (h : In w A L n c) (g : In w E K (x + k) f) :
    Calls Try.prog 39 #[.agg #[.int .i64 x, .slice A n c, .slice C m d], .slice E (x + k) f] w (Tells w (decide (0 < alike L (K.drop x)))) := by
  have B1 := Lib.hid (below_new w (.cells #[.int .i64 x, .slice A n c, .slice C m d] 47))
  obtain ⟨E', hsl, hE⟩ := (g.kept B1.out).low
  have HC := Lib.hid (fun q => alike_any A E' L (K.drop x) n k c (f - x) ((w.alloc (.cells #[.int .i64 x, .slice A n c, .slice C m d] 47)).drewN q) ((h.kept B1.out).kept (below_drewN (Below.refl _ _) q)) (hE.kept (below_drewN (Below.refl _ _) q)))
  obtain ⟨z, hz⟩ : ∃ z, alike L (K.drop x) = z := ⟨_, rfl⟩
  rw [hz] at HC ⊢
  clear h g hE hz
  have hd : decide (0 < (z : Int)) = decide (0 < z) := by simp
  go_enter Try.func39, Try.ntmps39
  go_upto_region 1 with fail
  go_quiet (first | (go_at_call 29; refine Calls.quiet_of (HC.out _)))
  go_wp2_with fail
  go_ret
  exact ⟨ret_bool (by simp), below_drewN B1.out _⟩

end Go.Proofs.Ytimonpoeieenpaa
