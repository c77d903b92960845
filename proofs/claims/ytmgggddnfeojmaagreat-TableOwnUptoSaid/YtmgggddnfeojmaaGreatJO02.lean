/-
  Walks: a number that is read, by the document. Walks: how many bytes two begin alike, by the program and by the document; bytes compared. Walks: bytes compared, told alike, copied; a pair told by what it shares. Walks: pairs copied, pairs alike, by the document. Walks: pairs packed, by the document. Walks: pairs packed, by the program. Walks: a block built, by the program. Plain and memory: numbers read one behind the other; bytes of a text, in new memory.
-/
import Derived.Deep.QuietTactic
import Derived.BigQuiet
import Derived.Lib.BytesEntry
import Derived.Lib.Bytealg
import Derived.Lib.BufferMore
import Derived.Lib.AppendStr
import Derived.StillTailTactics
import Derived.Lib.ConvBytes
import Derived.Test.YtmgggddnfeojmaaGreatJO01
set_option linter.unusedSimpArgs false
set_option linter.unusedVariables false
namespace Go.Proofs.YtmgggddnfeojmaaGreat
open Go.RowKit
theorem uint_any (A : Option Addr) (L : List Int) (n c : Nat) (at_ : Int) (w : World) (h : In w A L n c) :
    Calls Tryz.prog 91 #[.slice A n c, .int .i64 at_] w fun e w' => e = Ans (uintP L at_) ∧ w = w' := by
  by_cases g : at_ < 0 ∨ (n : Int) < at_
  · exact uint_out A L n c at_ w h.len (by have := h.cap; have := h.top; omega) g
  · obtain ⟨a, rfl⟩ := Int.eq_ofNat_of_zero_le (a := at_) (by omega)
    obtain ⟨k, rfl⟩ : ∃ k, n = a + k := ⟨n - a, by omega⟩
    exact uint_in A L a k c w h.len h.cap h.top h.bys h.byt
end Go.Proofs.YtmgggddnfeojmaaGreat
namespace Go.Proofs.YtmgggddnfeojmaaGreat
open Go.RowKit
theorem cmpL_step {s t : List Int} {k : Nat} {x y R : Int} (h : cmpL (s.drop k) (t.drop k) = R) (hp : s[k]? = some x) (hq : t[k]? = some y) : (x < y ∧ R = -1) ∨ (y < x ∧ R = 1) ∨ (x = y ∧ cmpL (s.drop (k + 1)) (t.drop (k + 1)) = R) := by
  obtain ⟨hk, e⟩ := List.getElem?_eq_some_iff.1 hp
  obtain ⟨hk', e'⟩ := List.getElem?_eq_some_iff.1 hq
  rw [List.drop_eq_getElem_cons hk, List.drop_eq_getElem_cons hk', e, e'] at h
  rcases Int.lt_trichotomy x y with g | g | g
  · rw [cmpL_lt _ _ _ _ g] at h; exact .inl ⟨g, h.symm⟩
  · subst g; rw [cmpL_cons] at h; exact .inr (.inr ⟨rfl, h⟩)
  · rw [cmpL_gt _ _ _ _ g] at h; exact .inr (.inl ⟨g, h.symm⟩)
theorem cmpL_end {s t : List Int} {k : Nat} {R : Int} (h : cmpL (s.drop k) (t.drop k) = R) (hk : k ≤ s.length) (hk' : k ≤ t.length) (hp : ¬ (k < s.length ∧ k < t.length)) : R = if s.length < t.length then -1 else if t.length < s.length then 1 else 0 := by
  by_cases g : k < s.length
  · have g' : t.length ≤ k := by omega
    rw [List.drop_of_length_le g', List.drop_eq_getElem_cons g] at h
    rw [if_neg (by omega), if_pos (by omega)]
    exact h.symm
  · rw [List.drop_of_length_le (by omega)] at h
    by_cases g' : k < t.length
    · rw [List.drop_eq_getElem_cons g'] at h
      rw [if_pos (by omega)]
      exact h.symm
    · rw [List.drop_of_length_le (by omega)] at h
      rw [if_neg (by omega), if_neg (by omega)]
      exact h.symm
theorem drew2 (w : World) (a b : Nat) : (w.drewN a).drewN b = w.drewN (a + b) := by rw [World.drewN_drewN]
theorem drew3 (w : World) (a b c : Nat) : ((w.drewN a).drewN b).drewN c = w.drewN (a + b + c) := by rw [World.drewN_drewN, World.drewN_drewN, Nat.add_assoc]
set_option maxRecDepth 100000 in
set_option maxHeartbeats 4000000 in
theorem less_any (s t : ByteArray) (w : World) (hs : s.size ≤ 281474976710656) (ht : t.size ≤ 281474976710656) :
    Calls Tryz.prog 31 #[.string s, .string t] w fun e w' => e = .returned (.int .i64 (cmpL (nums s) (nums t))) ∧ ∃ k, w' = w.drewN k := by
  have HN := Lib.hid (nums_len s)
  have HM := Lib.hid (nums_len t)
  obtain ⟨R, hR⟩ : ∃ R, cmpL (nums s) (nums t) = R := ⟨_, rfl⟩
  have HR : Hid (cmpL ((nums s).drop 0) ((nums t).drop 0) = R) := Lib.hid (by simpa using hR)
  rw [hR]
  clear hR
  go_enter Tryz.func31, Tryz.ntmps31
  go_wp2_with fail
  go_loopw [5] (fun t5 wr => ∃ k m : Nat, k ≤ s.size ∧ k ≤ t.size ∧ t5 = .int .i64 k ∧ wr = w.drewN m ∧ Hid (cmpL ((nums s).drop k) ((nums t).drop k) = R)) (fun t5 _ => s.size - (intOf t5).toNat)
  case atStart => exact ⟨0, 0, by omega, by omega, rfl, rfl, HR⟩
  case round =>
    obtain ⟨k, m, hk, hkt, rfl, rfl, hr⟩ := hrel
    by_cases hlt : k < s.size ∧ k < t.size
    · obtain ⟨h1, h2⟩ := hlt
      have HS := Lib.hid (cmpL_step hr.out (nums_get s k h1) (nums_get t k h2))
      obtain ⟨x, hx⟩ : ∃ x : Int, (s[k].toNat : Int) = x := ⟨_, rfl⟩
      obtain ⟨y, hy⟩ : ∃ y : Int, (t[k].toNat : Int) = y := ⟨_, rfl⟩
      rw [hx, hy] at HS
      rcases HS.out with ⟨g, rfl⟩ | ⟨g, rfl⟩ | ⟨rfl, hr2⟩
      · have d1 : decide (x < y) = true := by simpa using g
        clear g HS
        go_upto_region 4 with fail
        go_quiet (fail)
        go_wp2_with fail
        go_ret
        exact ⟨rfl, _, drew2 _ _ _⟩
      · have d1 : decide (x < y) = false := by simp; omega
        have d2 : decide (y < x) = true := by simpa using g
        clear g HS
        go_upto_region 4 with fail
        go_quiet (fail)
        go_upto_region 6 with fail
        go_quiet (fail)
        go_wp2_with fail
        go_ret
        exact ⟨rfl, _, drew3 _ _ _ _⟩
      · have HR2 := Lib.hid hr2
        clear hr2 HS
        go_upto_region 4 with fail
        go_quiet (fail)
        go_upto_region 6 with fail
        go_quiet (fail)
        go_wp2_with fail
        go_roundw
        case rel => exact ⟨k + 1, _, by omega, by omega, by go_num, rfl, HR2⟩
        case measure => simp [intOf]; omega
    · have HE := Lib.hid (cmpL_end hr.out (by have := HN.out; omega) (by have := HM.out; omega) (by rw [HN.out, HM.out]; exact hlt))
      by_cases h1 : k < s.size
      · have h2 : k = t.size := by omega
        have HV : Hid (R = 1) := Lib.hid (by rw [HE.out, HN.out, HM.out, if_neg (by omega), if_pos (by omega)])
        have d1 : ¬ s.size < t.size := by omega
        have d2 : t.size < s.size := by omega
        have d3 : ¬ k < t.size := by omega
        clear hlt h2
        go_wp2_with fail
        go_ret
        exact ⟨ret_int HV.out.symm, _, rfl⟩
      · have h2 : k = s.size := by omega
        subst h2
        by_cases g : s.size < t.size
        · have HV : Hid (R = -1) := Lib.hid (by rw [HE.out, HN.out, HM.out, if_pos g])
          clear hlt h1
          go_wp2_with fail
          go_ret
          exact ⟨ret_int HV.out.symm, _, rfl⟩
        · have HV : Hid (R = 0) := Lib.hid (by rw [HE.out, HN.out, HM.out, if_neg g, if_neg (by omega)])
          have d2 : ¬ t.size < s.size := by omega
          clear hlt h1
          go_wp2_with fail
          go_ret
          exact ⟨ret_int HV.out.symm, _, rfl⟩
theorem alike_zero (s t : List Int) : alike s t = 0 + alike (s.drop 0) (t.drop 0) := by simp
set_option maxRecDepth 100000 in
set_option maxHeartbeats 4000000 in
theorem alike_any (A C : Option Addr) (L M : List Int) (n m c d : Nat) (w : World) (h : In w A L n c) (g : In w C M m d) :
    Calls Tryz.prog 110 #[.slice A n c, .slice C m d] w fun e w' => e = .returned (.int .i64 (alike L M : Nat)) ∧ ∃ k, w' = w.drewN k := by
  have HI := Lib.hid h
  have HJ := Lib.hid g
  have hn : (n : Int) ≤ 9223372036854775807 := by have := h.cap; have := h.top; omega
  have hm : (m : Int) ≤ 9223372036854775807 := by have := g.cap; have := g.top; omega
  obtain ⟨R, hR⟩ : ∃ R, alike L M = R := ⟨_, rfl⟩
  have HR : Hid (R = 0 + alike (L.drop 0) (M.drop 0)) := Lib.hid (by rw [← hR]; exact alike_zero L M)
  have HE := Lib.hid hR
  rw [hR]
  clear h g hR
  go_enter Tryz.func110, Tryz.ntmps110
  go_wp2_with fail
  go_loopw [5] (fun t5 wr => ∃ k x : Nat, k ≤ n ∧ k ≤ m ∧ t5 = .int .i64 k ∧ wr = w.drewN x ∧ Hid (R = k + alike (L.drop k) (M.drop k))) (fun t5 _ => n - (intOf t5).toNat)
  case atStart => exact ⟨0, 0, by omega, by omega, rfl, rfl, HR⟩
  case round =>
    obtain ⟨k, x, hk, hkm, rfl, rfl, hr⟩ := hrel
    by_cases h1 : k < n
    · by_cases h2 : k < m
      · have hx := List.getElem?_eq_getElem (l := L) (i := k) (by have := HI.out.len; omega)
        generalize L[k]'(by have := HI.out.len; omega) = a at hx
        have hy := List.getElem?_eq_getElem (l := M) (i := k) (by have := HJ.out.len; omega)
        generalize M[k]'(by have := HJ.out.len; omega) = b at hy
        obtain ⟨ad, rfl, c1⟩ := in_at HI.out hx
        obtain ⟨bd, rfl, c2⟩ := in_at HJ.out hy
        have HS := Lib.hid (alike_step (HE.out.trans hr.out) hx hy)
        have i1 : (k : Int) < n := by omega
        have i2 : (k : Int) < m := by omega
        clear hx hy HR
        rcases HS.out with ⟨e1, e2⟩ | ⟨e1, e2⟩
        · have d1 : (a == b) = false := by simpa using e1
          have HV := Lib.hid (HE.out.symm.trans e2)
          clear e1 e2 HS
          go_upto_region 2 with fail
          go_quiet (fail)
          go_wp2_with fail
          go_ret
          exact ⟨ret_int (by rw [HV.out]), _, drew2 _ _ _⟩
        · subst e1
          have HV := Lib.hid (HE.out.symm.trans e2)
          clear e2 HS
          go_upto_region 2 with fail
          go_quiet (fail)
          go_wp2_with fail
          go_roundw
          case rel => exact ⟨k + 1, _, by omega, by omega, by go_num, rfl, HV⟩
          case measure => simp [intOf]; omega
      · obtain rfl : k = m := by omega
        have HV := Lib.hid (HE.out.symm.trans (alike_end (HE.out.trans hr.out) (.inr (by have := HJ.out.len; omega))))
        have i1 : (k : Int) < n := by omega
        clear HR h2
        go_upto_region 2 with fail
        go_quiet (fail)
        go_wp2_with fail
        go_ret
        exact ⟨ret_int (by rw [HV.out]), _, drew2 _ _ _⟩
    · obtain rfl : k = n := by omega
      have HV := Lib.hid (HE.out.symm.trans (alike_end (HE.out.trans hr.out) (.inl (by have := HI.out.len; omega))))
      clear HR h1
      go_upto_region 2 with fail
      go_quiet (fail)
      go_wp2_with fail
      go_ret
      exact ⟨ret_int (by rw [HV.out]), _, drew2 _ _ _⟩
end Go.Proofs.YtmgggddnfeojmaaGreat
namespace Go.Proofs.YtmgggddnfeojmaaGreat
open Go.RowKit
theorem bytesOf_any {w : World} {A : Option Addr} {L : List Int} (h : Bys w A L) (n c : Nat) (hn : L.length = n) : (Extern.Bytes.bytesOf (.slice A n c)).run Tryz.prog w = .ok ⟨(Lib.bytesOf L).toArray⟩ w := by
  subst hn
  rcases h with rfl | ⟨ad, rfl, hc⟩
  · cases A with
    | none => rfl
    | some ad => rfl
  · have := Lib.run_loadBytesX (P := Tryz.prog) w L ad .empty hc
    rw [show (ByteArray.empty.data ++ (Lib.bytesOf L).toArray) = (Lib.bytesOf L).toArray from by (simp [ByteArray.empty, ByteArray.emptyWithCapacity]; try rfl)] at this
    exact this
theorem cmp_nums : ∀ L M : List Int, Byt L → Byt M → Lib.compareBytes (Lib.bytesOf L) (Lib.bytesOf M) = cmpL L M
  | [], [], _, _ => rfl
  | [], _ :: _, _, _ => rfl
  | _ :: _, [], _, _ => rfl
  | x :: s, y :: t, h, g => by
    have ih := cmp_nums s t h.tail g.tail
    obtain ⟨x0, x1⟩ := h.head
    obtain ⟨y0, y1⟩ := g.head
    have e : Lib.bytesOf (x :: s) = x.toNat.toUInt8 :: Lib.bytesOf s := rfl
    have e' : Lib.bytesOf (y :: t) = y.toNat.toUInt8 :: Lib.bytesOf t := rfl
    have lt : ∀ a b : Int, 0 ≤ a → a < 256 → 0 ≤ b → b < 256 → (a.toNat.toUInt8 < b.toNat.toUInt8 ↔ a < b) := fun a b a0 a1 b0 b1 => by
      rw [UInt8.lt_iff_toNat_lt]
      have e1 : a.toNat.toUInt8.toNat = a.toNat := by rw [Nat.toUInt8, UInt8.toNat_ofNat']; omega
      have e2 : b.toNat.toUInt8.toNat = b.toNat := by rw [Nat.toUInt8, UInt8.toNat_ofNat']; omega
      rw [e1, e2]
      omega
    rw [e, e']
    unfold Lib.compareBytes cmpL
    rcases Int.lt_trichotomy x y with k | k | k
    · rw [if_pos ((lt x y x0 x1 y0 y1).2 k), if_pos k]
    · subst k
      rw [if_neg (fun q => Int.lt_irrefl _ ((lt x x x0 x1 y0 y1).1 q)), if_neg (fun q => Int.lt_irrefl _ ((lt x x x0 x1 y0 y1).1 q)), if_neg (by omega), if_neg (by omega)]
      exact ih
    · rw [if_neg (fun q => by have := (lt x y x0 x1 y0 y1).1 q; omega), if_pos ((lt y x y0 y1 x0 x1).2 k), if_neg (by omega), if_pos k]
theorem run_bytealg {w : World} {A C : Option Addr} {L M : List Int} (h : Bys w A L) (g : Bys w C M) (hL : Byt L) (hM : Byt M) (n m c d : Nat) (hn : L.length = n) (hm : M.length = m) :
    (Extern.BytealgCompare.compare #[.slice A n c, .slice C m d]).run Tryz.prog w = .ok (.int .i64 (cmpL L M)) w := by
  change Sem.run Tryz.prog (do pure (goInt (Extern.BytealgCompare.cmp (← Extern.Bytes.bytesOf (.slice A n c)) (← Extern.Bytes.bytesOf (.slice C m d))))) w = _
  simp only [Sem.run_bind, Sem.run_pure, bytesOf_any h n c hn, bytesOf_any g m d hm, Result.andThen]
  rw [Lib.cmp_eq, ← cmp_nums L M hL hM]
  rfl
set_option maxRecDepth 100000 in
theorem compare_any (A C : Option Addr) (L M : List Int) (n m c d : Nat) (w : World) (h : In w A L n c) (g : In w C M m d) :
    Calls Tryz.prog 77 #[.slice A n c, .slice C m d] w fun e w' => e = .returned (.int .i64 (cmpL L M)) ∧ w' = w := by
  have HR := run_bytealg h.bys g.bys h.byt g.byt n m c d h.len g.len
  clear h g
  go_enter Tryz.func77, Tryz.ntmps77
  go_wp2
  rw [run_callFunc_extern Tryz.func96 (by kernel_rfl) (by kernel_rfl) (by kernel_rfl) (e := Extern.BytealgCompare.compare) (by kernel_rfl), HR]
  simp only [Result.andThen]
  rw [Oper.upon_value]
  go_wp2
  go_ret
  exact ⟨rfl, rfl⟩
theorem toList_ne {s t : ByteArray} (h : s ≠ t) : (s.toList == t.toList) = false := by
  rw [ByteArray.toList_eq, ByteArray.toList_eq]
  obtain ⟨⟨l⟩⟩ := s
  obtain ⟨⟨m⟩⟩ := t
  simpa using h
theorem toList_dec {L M : List Int} (hL : Byt L) (hM : Byt M) : ((strOfNums L).toList == (strOfNums M).toList) = decide (L = M) := by
  by_cases e : L = M
  · subst e; simp
  · rw [toList_ne (fun h => e ((str_of_inj hL hM).1 h))]
    simp [e]
theorem ret_bool {a b : Bool} (h : a = b) : Ending.returned (.bool a) = .returned (.bool b) := by rw [h]
theorem equal_any (A C : Option Addr) (L M : List Int) (n m c d : Nat) (w : World) (h : In w A L n c) (g : In w C M m d) :
    Calls Tryz.prog 45 #[.slice A n c, .slice C m d] w fun e w' => e = .returned (.bool (decide (L = M))) ∧ w' = w := by
  have k1 := conv_any h.bys n c h.len
  have k2 := conv_any g.bys m d g.len
  have HD := Lib.hid (toList_dec h.byt g.byt)
  clear h g
  go_enter Tryz.func45, Tryz.ntmps45
  go_wp2
  go_ret
  exact ⟨ret_bool HD.out, rfl⟩
theorem clone_any (A : Option Addr) (L : List Int) (n c : Nat) (w : World) (hn : L.length = n) (h : Bys w A L) (hl : L.length ≤ 140737488355328) :
    Calls Tryz.prog 42 #[.slice A n c] w (Longer w w.heap.size L) := by
  have HN := Lib.hid hn
  by_cases hA : A = none
  · subst hA
    obtain rfl : L = [] := by
      rcases h with h | ⟨ad, e, -⟩
      · exact h
      · cases e
    obtain rfl : n = 0 := hn.symm
    have hnil := fun W => Go.Lib.run_eql_slice_nil_nil (P := Tryz.prog) W 0 c Tryz.underlying42
    clear h hn hl
    go_enter Tryz.func42, Tryz.ntmps42
    go_wp2
    go_ret
    exact ⟨none, 0, rfl, Row.nil _ _, Below.refl _ _⟩
  · obtain ⟨ad, rfl⟩ : ∃ ad, A = some ad := Option.ne_none_iff_exists'.1 hA
    have HB := Lib.hid (h.alloc (.cells #[] 5))
    have HL := Lib.hid hl
    have M0 := Lib.hid (row_made w w.heap.size [] #[] rfl (by simp) (Nat.le_refl _))
    have B0 := Lib.hid (below_new w (.cells #[] 5))
    clear h hl hn hA
    have hnil := fun W => Go.Lib.run_eql_slice_some_nil (P := Tryz.prog) W ad n c Tryz.underlying42
    go_enter Tryz.func42, Tryz.ntmps42
    go_wp2_with (at_builtin; refine wpList_append_row _ rfl (.tmp 5) (.tmp 6) rfl w.heap.size _ 0 [] L _ 0 n c rfl rfl rfl HN.out M0.out HB.out (by simp) (by have := HL.out; simp only [List.length_nil]; omega) ?_; intro A1 c1 w1 r1 b1; have R1 := Lib.hid r1; have B1 := Lib.hid b1; clear r1 b1)
    go_ret
    exact ⟨A1, c1, ret_slice (by have := HN.out; omega), R1.out, B0.out.trans B1.out⟩
/-- It answers a bool, and makes new memory alone. -/
def Tells (w : World) (b : Bool) (e : Ending) (w' : World) : Prop := e = .returned (.bool b) ∧ Below w.heap.size w w'
theorem In.low {w : World} {A : Option Addr} {L : List Int} {a k c : Nat} (h : In w A L (a + k) c) :
    ∃ A', (∀ W, (Instr.slice 42 (.slice A (a + k) c) (some (.int .i64 (a : Int))) none none).run Tryz.prog W = .ok (.slice A' k (c - a)) W) ∧ In w A' (L.drop a) k (c - a) := by
  obtain ⟨A', h1, h2⟩ := slice_low h.bys a k c h.len h.cap
  have := h.cap
  have := h.top
  exact ⟨A', h1, by rw [List.length_drop, h.len]; omega, by omega, by omega, h2, h.byt.drop a⟩
theorem gt_one (L M : List Int) : decide (0 < cmpL L M) = decide (cmpL L M = 1) := by
  rcases cmpL_three L M with h | h | h <;> rw [h] <;> rfl
set_option maxRecDepth 100000 in
theorem rises_any (x k : Nat) (A C E : Option Addr) (L K : List Int) (n c m d f : Nat) (w : World) (h : In w A L n c) (g : In w E K (x + k) f) :
    Calls Tryz.prog 100 #[.agg #[.int .i64 x, .slice A n c, .slice C m d], .slice E (x + k) f] w (Tells w (decide (cmpL L (K.drop x) = 1))) := by
  have B1 := Lib.hid (below_new w (.cells #[.int .i64 x, .slice A n c, .slice C m d] 160))
  obtain ⟨E', hsl, hE⟩ := (g.kept B1.out).low
  have HC := Lib.hid (fun q => compare_any A E' L (K.drop x) n k c (f - x) ((w.alloc (.cells #[.int .i64 x, .slice A n c, .slice C m d] 160)).drewN q) ((h.kept B1.out).kept (below_drewN (Below.refl _ _) q)) (hE.kept (below_drewN (Below.refl _ _) q)))
  have HG := Lib.hid (gt_one L (K.drop x))
  generalize cmpL L (K.drop x) = z at HC HG ⊢
  clear h g hE
  go_enter Tryz.func100, Tryz.ntmps100
  go_upto_region 1 with fail
  go_quiet (first | (go_at_call 77; refine Calls.quiet_of_same (HC.out _)))
  go_wp2_with fail
  go_ret
  exact ⟨ret_bool HG.out, below_drewN B1.out _⟩
set_option maxRecDepth 100000 in
theorem sharesMore_any (x k : Nat) (A C E : Option Addr) (L K : List Int) (n c m d f : Nat) (w : World) (h : In w A L n c) (g : In w E K (x + k) f) :
    Calls Tryz.prog 134 #[.agg #[.int .i64 x, .slice A n c, .slice C m d], .slice E (x + k) f] w (Tells w (decide (0 < alike L (K.drop x)))) := by
  have B1 := Lib.hid (below_new w (.cells #[.int .i64 x, .slice A n c, .slice C m d] 160))
  obtain ⟨E', hsl, hE⟩ := (g.kept B1.out).low
  have HC := Lib.hid (fun q => alike_any A E' L (K.drop x) n k c (f - x) ((w.alloc (.cells #[.int .i64 x, .slice A n c, .slice C m d] 160)).drewN q) ((h.kept B1.out).kept (below_drewN (Below.refl _ _) q)) (hE.kept (below_drewN (Below.refl _ _) q)))
  obtain ⟨z, hz⟩ : ∃ z, alike L (K.drop x) = z := ⟨_, rfl⟩
  rw [hz] at HC ⊢
  clear h g hE hz
  have hd : decide (0 < (z : Int)) = decide (0 < z) := by simp
  go_enter Tryz.func134, Tryz.ntmps134
  go_upto_region 1 with fail
  go_quiet (first | (go_at_call 110; refine Calls.quiet_of (HC.out _)))
  go_wp2_with fail
  go_ret
  exact ⟨ret_bool (by simp), below_drewN B1.out _⟩
end Go.Proofs.YtmgggddnfeojmaaGreat
namespace Go.Proofs.YtmgggddnfeojmaaGreat
open Go.RowKit
/-- A literal of no bytes, as it lies. -/
def Lit0 (w : World) (g : Nat) : Prop := w.heap[g]? = some (.cells #[] 5 (0, 0))
theorem Lit0.new (w : World) (g : Nat) (h : g = w.heap.size) : Lit0 (w.alloc (.cells #[] 5)) g := by subst h; exact heap_alloc_new w _
theorem Lit0.drew {w : World} {g : Nat} (h : Lit0 w g) : Lit0 w.drew g := h
theorem Lit0.lt {w : World} {g : Nat} (h : Lit0 w g) : g < w.heap.size := (Array.getElem?_eq_some_iff.1 h).1
theorem Lit0.kept {w w' : World} {g : Nat} (h : Lit0 w g) (hb : Below w.heap.size w w') : Lit0 w' g := by
  unfold Lit0
  rw [hb.block g h.lt]
  exact h
theorem Lit0.alloc {w : World} {g : Nat} (h : Lit0 w g) (o : Obj) : Lit0 (w.alloc o) g := h.kept (below_new w o)
theorem Lit0.row {w : World} {g : Nat} (h : Lit0 w g) : Row w g (some ⟨g, 0, none⟩) 0 [] :=
  (Mine.of (Nat.le_refl _) h (Nat.le_refl _) (Nat.zero_le _) rfl rfl).row
theorem run_append_none {P : Program} (w : World) (t ty e : TypeId) (i : TypeInfo) (ht : P.underlying t = some (.slice e)) (hi : P.info? e = some i) (ad : Addr) (C : Option Addr) (cm : Nat) :
    (Builtin.append_ #[t, t] ty #[.slice (some ad) 0 0, .slice C 0 cm]).run P w = .ok (.slice (some ad) 0 0) w := by
  cases C <;> simp [Builtin.append_, run_underlying ht, sizeOf, typeInfo, hi, Builtin.lenOf, Builtin.firstCells, loadCells, loadCellsFrom, storeCells]
set_option maxRecDepth 100000 in
/-- An append onto a literal of no bytes: all that was there stays. -/
theorem run_append_zero (w : World) (ty : TypeId) (g : Nat) (M : List Int) (C : Option Addr) (cm : Nat) (h : Lit0 w g) (hm : Bys w C M) (hr : M.length ≤ 140737488355328) :
    ∃ A' c' w', (Builtin.append_ #[42, 42] ty #[.slice (some ⟨g, 0, none⟩) 0 0, .slice C M.length cm]).run Tryz.prog w = .ok (.slice A' M.length c') w' ∧ Row w' g A' c' M ∧ Below w.heap.size w w' := by
  obtain ⟨i, hi, hz0, hz1, hz2⟩ := info_parts info5
  obtain ⟨A', c', w', r, h2, h3, h4⟩ := run_append_grown (P := Tryz.prog) w 42 ty 5 i (.int .u8 0) 1 1 Tryz.underlying42 hi hz0 hz1 hz2 rfl (by decide) g (some ⟨g, 0, none⟩) 0 0 (vals []) h.row C M.length cm (vals M) (by simp [vals_len]) hm.lies vals_one (by unfold maxLen; omega) (by omega) (Nat.le_of_lt h.lt)
  rw [show vals [] ++ vals M = vals M from rfl, Nat.zero_add] at h2
  rw [Nat.zero_add] at r
  refine ⟨A', c', w', r, h2, ⟨h4.os, h4.tape, h4.output, h4.size, fun k hk => ?_⟩⟩
  by_cases e : k = g
  · subst e
    by_cases hM : M = []
    · subst hM
      have e2 := run_append_none (P := Tryz.prog) w 42 ty 5 i Tryz.underlying42 hi ⟨k, 0, none⟩ C cm
      rw [List.length_nil, e2] at r
      injection r with r1 r2
      rw [r2]
    · obtain ⟨ad, rfl, hc⟩ := hm.resolve_left hM
      have hpos : 0 < M.length := List.length_pos_iff.2 hM
      have hr := run_append_grow (P := Tryz.prog) w 42 ty 5 i (.int .u8 0) Tryz.underlying42 hi hz0 ⟨k, 0, none⟩ 0 0 [] (by simp) (fun j u hu => by simp at hu) ad M.length cm (vals M) (by rw [hz1, vals_len]; omega) (fun j u hu => by
        obtain ⟨x, e1, rfl⟩ := vals_get hu
        exact hc j x e1) (by omega) (by omega) (by rw [hz2, Nat.zero_add, nextslicecap_zero (by omega)]; omega)
      rw [hr] at r
      injection r with r1 r2
      rw [← r2]
      exact RowKit.Below.heap_alloc w.drew _ k hk
  · exact h4.block k hk (fun e' => e (by simpa [Value.ownBlock] using e'))
theorem step_append_zero (w : World) {ops : Array Oper} {o : Oper} {a : Act} {K : Act → World → Prop} {Q : Exit → Act → World → Prop} {E : Prop} (hgd : o.guard = none) (s x : Operand)
    (ho : o.op = .call { callee := .builtin .append, args := #[s, x], argTypes := #[42, 42] })
    (g : Nat) (M : List Int) (C : Option Addr) (m cm : Nat) (hs : a.eval s = .slice (some ⟨g, 0, none⟩) 0 0) (hx : a.eval x = .slice C m cm) (em : M.length = m) (h : Lit0 w g) (hm : Bys w C M) (hr : M.length ≤ 140737488355328)
    (k : ∀ A' c' w', Row w' g A' c' M → Below w.heap.size w w' → K (a.put o.dst (.slice A' m c')) w') : if Region.wanted o (yielded ops a.tmps) = true then Oper.wp Tryz.prog o a w K Q else E := by
  have hw : Region.wanted o (yielded ops a.tmps) = true := by simp [Region.wanted, hgd]
  rw [if_pos hw]
  subst em
  obtain ⟨A', c', w', r, h2, h3⟩ := run_append_zero w o.type g M C cm h hm hr
  have k' := k A' c' w' h2 h3
  unfold Oper.wp execOp
  simp only [ho, resolve, invoke, builtin, Sem.run_bind, Sem.run_pure, Result.andThen_ok, List.map_toArray, List.map_cons, List.map_nil, hs, hx, r]
  exact k'
theorem drew_size (w : World) : w.drew.heap.size = w.heap.size := rfl
theorem below_al {a w : World} (h : Below a.heap.size a w) (o : Obj) : Below a.heap.size a (w.alloc o) := h.alloc h.size o
end Go.Proofs.YtmgggddnfeojmaaGreat
namespace Go.Proofs.YtmgggddnfeojmaaGreat
open Go.RowKit
/-- What packing answers. -/
def Built (w : World) (p : List Int × Int) (e : Ending) (w' : World) : Prop :=
  ∃ A c, e = .returned (.tuple #[.slice A p.1.length c, .int .i64 p.2]) ∧ Row w' w.heap.size A c p.1 ∧ Below w.heap.size w w'
theorem built_none {w w' : World} {r : Int} {e : Ending} (h : e = .returned (.tuple #[.slice none 0 0, .int .i64 r]) ∧ Below w.heap.size w w') : Built w ([], r) e w' := by
  obtain ⟨rfl, hb⟩ := h
  exact ⟨none, 0, rfl, Row.nil _ _, hb⟩
theorem fit_not {l : List Bp} {q : Bp} {k : Nat} (hq : l[k]? = some q) (h : 200 < q.k.l.length ∨ 4096 < q.v.l.length) : ¬ FitP (rds l) := fun hf => by
  have := hf.2 q.rd (List.mem_of_getElem? (rds_get hq))
  obtain ⟨h1, h2⟩ := this
  simp only [Bp.rd] at h1 h2
  omega
theorem short_next {L : List Pr} {k : Nat} {p : Pr} (h : ∀ x ∈ L.take k, ShortP x) (hp : L[k]? = some p) (hs : ShortP p) : ∀ x ∈ L.take (k + 1), ShortP x := fun x hx => by
  rw [List.take_add_one, hp] at hx
  rcases List.mem_append.1 hx with hx | hx
  · exact h x hx
  · simp only [Option.toList, List.mem_singleton] at hx
    subst hx
    exact hs
theorem take_next {L : List Pr} {k : Nat} {p : Pr} (hp : L[k]? = some p) : L.take (k + 1) = L.take k ++ [p] := by
  rw [List.take_add_one, hp]
  rfl
theorem rises_next {L : List Pr} {k : Nat} {p : Pr} (h : risesP [] (L.take k)) (hp : L[k]? = some p) (hs : cmpL p.1 (lastK [] (L.take k)) = 1) : risesP [] (L.take (k + 1)) := by
  rw [take_next hp, risesP_snoc]
  exact ⟨h, hs⟩
theorem rises_not {L : List Pr} {k : Nat} {p : Pr} (hp : L[k]? = some p) (hs : cmpL p.1 (lastK [] (L.take k)) ≠ 1) : ¬ risesP [] L := fun h => by
  have e : L = L.take (k + 1) ++ L.drop (k + 1) := (List.take_append_drop _ _).symm
  rw [e] at h
  have := risesP_left _ _ _ h
  rw [take_next hp, risesP_snoc] at this
  exact hs this.2
theorem lastK_take {L : List Pr} {k : Nat} {p : Pr} (hp : L[k]? = some p) : lastK [] (L.take (k + 1)) = p.1 := by
  rw [take_next hp, lastK_snoc]
end Go.Proofs.YtmgggddnfeojmaaGreat
namespace Go.Proofs.YtmgggddnfeojmaaGreat
open Go.RowKit
/-- Where a slice from a place on begins. -/
def lowA (A : Option Addr) (a c : Nat) : Option Addr := if c = a then A else A.map (·.add a)
theorem In.low_at {w : World} {A : Option Addr} {L : List Int} {a k c : Nat} (h : In w A L (a + k) c) :
    (∀ W, (Instr.slice 42 (.slice A (a + k) c) (some (.int .i64 (a : Int))) none none).run Tryz.prog W = .ok (.slice (lowA A a c) k (c - a)) W) ∧ In w (lowA A a c) (L.drop a) k (c - a) := by
  have h1 := h.len
  have h2 := h.cap
  have h3 := h.top
  refine ⟨fun W => ?_, by rw [List.length_drop, h1]; omega, by omega, by omega, ?_, h.byt.drop a⟩
  · rw [run_slice_l (P := Tryz.prog) W _ A (a + k) c under8 .i64 (a : Int) (by omega) (by omega), size8]
    simp [Result.andThen, sliced, lowA]
  · have := h.bys.part a L.length c (by omega)
    rwa [List.take_of_length_le (by simp)] at this
set_option maxRecDepth 100000 in
set_option maxHeartbeats 4000000 in
theorem pack_any (kA vA E : Option Addr) (K V G : List Int) (N k kc m vc g gc : Nat) (w : World) (hk : In w kA K (N + k) kc) (_hv : In w vA V m vc) (hg : In w E G g gc) (hN : alike K G = N) :
    Calls Tryz.prog 99 #[.agg #[.slice kA (N + k) kc, .slice vA m vc], .slice E g gc] w fun e w' => e = .returned (.agg #[.int .i64 N, .slice (lowA kA N kc) k (kc - N), .slice vA m vc]) ∧ Below w.heap.size w w' := by
  obtain ⟨W, hW⟩ : ∃ W, (w.alloc (.cells #[.slice kA (N + k) kc, .slice vA m vc] 144)).alloc (.cells #[.int .i64 0, .slice none 0 0, .slice none 0 0] 160) = W := ⟨_, rfl⟩
  have HB : Hid (Below w.heap.size w W) := Lib.hid (hW ▸ below_al (below_al (Below.refl _ _) _) _)
  have HA := Lib.hid (alike_any kA E K G (N + k) g kc gc W (hk.kept HB.out) (hg.kept HB.out))
  rw [hN] at HA
  have hsl := hk.low_at.1
  obtain ⟨A', hA'⟩ : ∃ A', lowA kA N kc = A' := ⟨_, rfl⟩
  rw [hA'] at hsl ⊢
  have c0 : W.cell? ⟨w.heap.size, 0, none⟩ = some (.slice kA (N + k) kc) := by subst hW; simp
  have c1 : W.cell? ⟨w.heap.size, 1, none⟩ = some (.slice vA m vc) := by subst hW; simp
  have z0 : W.cell? ⟨w.heap.size + 1, 0, none⟩ = some (.int .i64 0) := by subst hW; simp
  have z1 : W.cell? ⟨w.heap.size + 1, 1, none⟩ = some (.slice none 0 0) := by subst hW; simp
  have z2 : W.cell? ⟨w.heap.size + 1, 2, none⟩ = some (.slice none 0 0) := by subst hW; simp
  have f0 : ∀ i, W.frozen? ⟨w.heap.size + 1, i, none⟩ = false := fun i => by subst hW; simp
  clear hk _hv hg hN hA'
  go_enter Tryz.func99, Tryz.ntmps99
  go_upto_region 1 with fail
  try rw [hW]
  clear hW
  go_upto_region 2 with (go_at_call 110; refine HA.out.mono ?_; rintro e w1 ⟨rfl, dq, hw⟩; have BQ : Hid (Below W.heap.size W w1) := Lib.hid (by rw [hw]; exact below_drewN (Below.refl _ _) dq); have b0 : w1.cell? ⟨w.heap.size, 0, none⟩ = some (.slice kA (N + k) kc) := (by rw [hw]; exact c0); have b1 : w1.cell? ⟨w.heap.size, 1, none⟩ = some (.slice vA m vc) := (by rw [hw]; exact c1); have y0 : w1.cell? ⟨w.heap.size + 1, 0, none⟩ = some (.int .i64 0) := (by rw [hw]; exact z0); have y1 : w1.cell? ⟨w.heap.size + 1, 1, none⟩ = some (.slice none 0 0) := (by rw [hw]; exact z1); have y2 : w1.cell? ⟨w.heap.size + 1, 2, none⟩ = some (.slice none 0 0) := (by rw [hw]; exact z2); have g0 : ∀ i, w1.frozen? ⟨w.heap.size + 1, i, none⟩ = false := fun i => (by rw [hw]; exact f0 i); clear hw c0 c1 z0 z1 z2 f0)
  have h0 := g0 0
  have h1 := g0 1
  have h2 := g0 2
  clear g0
  go_still_tail 8, (by kernel_rfl)
  change wpList _ _ _ _ _ w1.drew
  go_wp2_with fail
  try simp only [Exit.inBlock, Exit.then]
  refine bodyPost_ret (v := .agg #[.int .i64 N, .slice A' k (kc - N), .slice vA m vc]) ?_ rfl ?_
  · unfold results
    go_simp
  · have hb := ((((HB.out.trans (BQ.out.mono HB.out.size)).setCell (Nat.le_succ _) (p := ⟨w.heap.size + 1, 0, none⟩) (.int .i64 N)).setCell (Nat.le_succ _) (p := ⟨w.heap.size + 1, 1, none⟩) (.slice A' k (kc - N))).setCell (Nat.le_succ _) (p := ⟨w.heap.size + 1, 2, none⟩) (.slice vA m vc)).drew
    exact ⟨rfl, hb⟩
/-- What an append onto a row of bytes lets be: a block of another kind. -/
theorem block_beside {w w' : World} {B h : Nat} {A : Option Addr} {c : Nat} {L : List Int} {cs : Array Value} {ty : TypeId} (ht : ty ≠ 5) (hh : w.heap[h]? = some (.cells cs ty (0, 0))) (hs : Row w B A c L) (hg : w.grownBy w' (Value.slice A L.length c).ownBlock) : w'.heap[h]? = some (.cells cs ty (0, 0)) := by
  rw [hg.block h (Array.getElem?_eq_some_iff.1 hh).1, hh]
  intro e
  rcases hs.2 with ⟨hn, _⟩ | ⟨g', cap', cur', e', _, h2', _⟩
  · rw [hn] at e
    simp [Value.ownBlock] at e
  · rw [e'] at e
    obtain rfl : h = g' := by simpa [Value.ownBlock] using e
    rw [hh] at h2'
    injection h2' with h2'
    injection h2' with _ h2'
    exact ht h2'
/-- Blocks of other kinds than bytes lie as they lay. -/
def Beside (w w' : World) : Prop := ∀ (h : Nat) (cs : Array Value) (ty : TypeId), ty ≠ 5 → w.heap[h]? = some (.cells cs ty (0, 0)) → w'.heap[h]? = some (.cells cs ty (0, 0))
theorem Beside.trans {a b c : World} (h : Beside a b) (g : Beside b c) : Beside a c := fun k cs ty ht hk => g k cs ty ht (h k cs ty ht hk)
theorem Beside.of_below {w w' : World} (h : Below w.heap.size w w') : Beside w w' := fun k _cs _ty _ hk => (h.block k (Array.getElem?_eq_some_iff.1 hk).1).trans hk
theorem Beside.append {w w' : World} {B : Nat} {A : Option Addr} {c : Nat} {L : List Int} (hs : Row w B A c L) (hg : w.grownBy w' (Value.slice A L.length c).ownBlock) : Beside w w' := fun _ _ _ ht hk => block_beside ht hk hs hg
theorem wpList_append_rowg (w : World) {ops : Array Oper} {rest : List Oper} {o : Oper} {a : Act} {Q : Exit → Act → World → Prop} (hgd : o.guard = none) (s x : Operand)
    (ho : o.op = .call { callee := .builtin .append, args := #[s, x], argTypes := #[42, 42] })
    (B : Nat) (A : Option Addr) (c : Nat) (L M : List Int) (C : Option Addr) (n m cm : Nat) (hs : a.eval s = .slice A n c) (hx : a.eval x = .slice C m cm) (en : L.length = n) (em : M.length = m) (h : Row w B A c L) (hm : Bys w C M) (hB : B ≤ w.heap.size) (hr : L.length + M.length ≤ 140737488355328)
    (k : ∀ A' c' w', Row w' B A' c' (L ++ M) → Below B w w' → w.grownBy w' (Value.slice A L.length c).ownBlock → wpList Tryz.prog ops Q rest (a.put o.dst (.slice A' (n + m) c')) w') : wpList Tryz.prog ops Q (o :: rest) a w := by
  subst en
  subst em
  obtain ⟨i, hi, hz0, hz1, hz2⟩ := info_parts info5
  refine wpList_plain hgd fun K hK => ?_
  obtain ⟨A', c', w', r, h2, h3, h4⟩ := run_append_grown (P := Tryz.prog) w 42 o.type 5 i (.int .u8 0) 1 1 Tryz.underlying42 hi hz0 hz1 hz2 rfl (by decide) B A L.length c (vals L) h C M.length cm (vals M) (by simp [vals_len]) hm.lies vals_one (by unfold maxLen; omega) (by omega) hB
  rw [← vals_append] at h2
  have k' := k A' c' w' (by unfold Row; rw [List.length_append]; exact h2) h3 h4
  unfold Oper.wp execOp
  simp only [ho, resolve, invoke, builtin, Sem.run_bind, Sem.run_pure, Result.andThen_ok, List.map_toArray, List.map_cons, List.map_nil, hs, hx, r]
  exact hK _ _ k'
theorem heads (x y z : Int) (i : Nat) (v : Int) (h : [x, y, z][i]? = some v) : (([x, y, z].take (i + 1)).flatMap digs) = (([x, y, z].take i).flatMap digs) ++ digs v := by
  rw [List.take_add_one, h, List.flatMap_append]
  simp
theorem heads_len (x y z : Int) (i : Nat) : (([x, y, z].take i).flatMap digs).length ≤ 30 := by
  have hx := (digs_len x).2
  have hy := (digs_len y).2
  have hz := (digs_len z).2
  match i with
  | 0 => simp
  | 1 => simp; omega
  | 2 => simp; omega
  | n + 3 => simp; omega
set_option maxRecDepth 100000 in
set_option maxHeartbeats 4000000 in
theorem appendTo_any (x : Nat) (A C E : Option Addr) (L V F : List Int) (n c m d f e B : Nat) (w : World) (hx : x ≤ 4096) (hn4 : n ≤ 4096) (hm4 : m ≤ 4096) (hL : ∀ W, Below B w W → In W A L n c) (hV : ∀ W, Below B w W → In W C V m d) (hF : Row w B E e F) (hf : F.length = f) (hf2 : f ≤ 20000000) (hB : B ≤ w.heap.size) :
    Calls Tryz.prog 101 #[.agg #[.int .i64 x, .slice A n c, .slice C m d], .slice E f e] w fun en w' => ∃ A' c', en = .returned (.slice A' (F ++ (digs x ++ (digs n ++ (digs m ++ (L ++ V))))).length c') ∧ Row w' B A' c' (F ++ (digs x ++ (digs n ++ (digs m ++ (L ++ V))))) ∧ Below B w w' ∧ Beside w w' := by
  obtain ⟨W, hW⟩ : ∃ W, (w.alloc (.cells #[.int .i64 x, .slice A n c, .slice C m d] 160)).alloc (.cells #[.int .i64 x, .int .i64 n, .int .i64 m] 3) = W := ⟨_, rfl⟩
  have HW : Hid (Below w.heap.size w W) := Lib.hid (hW ▸ below_al (below_al (Below.refl _ _) _) _)
  have HK : Hid (W.heap[w.heap.size]? = some (.cells #[.int .i64 x, .slice A n c, .slice C m d] 160 (0, 0)) ∧ W.heap[w.heap.size + 1]? = some (.cells #[.int .i64 x, .int .i64 n, .int .i64 m] 3 (0, 0)) ∧ W.heap.size = w.heap.size + 2) := Lib.hid (by
    subst hW
    exact ⟨((below_new _ _).block _ (by simp)).trans (heap_alloc_new w _), by have := heap_alloc_new (w.alloc (.cells #[.int .i64 x, .slice A n c, .slice C m d] 160)) (.cells #[.int .i64 x, .int .i64 n, .int .i64 m] 3); rwa [World.size_alloc] at this, by simp⟩)
  have HL := Lib.hid hL
  have HV := Lib.hid hV
  have HF := Lib.hid (hF.kept HW.out (Nat.le_refl _))
  have HFL := Lib.hid hf
  have HB := Lib.hid hB
  have c0 : W.cell? ⟨w.heap.size, 0, none⟩ = some (.int .i64 x) := by simp [World.cell?, HK.out.1]
  clear hL hV hF hf hB
  go_enter Tryz.func101, Tryz.ntmps101
  go_wp2_with fail
  try rw [hW]
  clear hW
  go_loopw [5, 18] (fun t5 t18 wr => ∃ (i : Nat) (A2 : Option Addr) (c2 q : Nat), i ≤ 3 ∧ t18 = .int .i64 i ∧ t5 = .slice A2 q c2 ∧ Hid ((([(x : Int), n, m].take i).flatMap digs).length = q) ∧ Hid (Row wr W.heap.size A2 c2 (([(x : Int), n, m].take i).flatMap digs)) ∧ Hid (Below W.heap.size W wr)) (fun _ t18 _ => 3 - (intOf t18).toNat)
  case atStart => exact ⟨0, none, 0, 0, by omega, rfl, rfl, Lib.hid rfl, Lib.hid (Row.nil _ _), Lib.hid (Below.refl _ _)⟩
  case round =>
    obtain ⟨i, A2, c2, q, hi, rfl, rfl, hq, hr, hb⟩ := hrel
    by_cases hlt : i < 3
    · have hv := List.getElem?_eq_getElem (l := [(x : Int), n, m]) (i := i) (by simp; omega)
      generalize [(x : Int), n, m][i]'(by simp; omega) = v at hv
      have hv0 : 0 ≤ v ∧ v ≤ 4096 := by
        have := List.mem_of_getElem? hv
        simp only [List.mem_cons, List.not_mem_nil, or_false] at this
        omega
      have cv : wr.cell? ⟨w.heap.size + 1, i, none⟩ = some (.int .i64 v) := by
        have e : wr.heap[w.heap.size + 1]? = some (.cells #[.int .i64 x, .int .i64 n, .int .i64 m] 3 (0, 0)) := (hb.out.block _ (by have := HK.out.2.2; omega)).trans HK.out.2.1
        have : i = 0 ∨ i = 1 ∨ i = 2 := by omega
        rcases this with rfl | rfl | rfl <;> (simp at hv; subst hv; simp [World.cell?, e])
      have HH := Lib.hid (heads x n m i v hv)
      have HHL := Lib.hid (heads_len x n m i)
      generalize ([(x : Int), n, m].take i).flatMap digs = S at hq hr HH HHL
      have e1 : IntKind.u64.wrap v = v := by rw [IntKind.wrap_u64]; omega
      have HV0 := Lib.hid hv0
      have i0 : (i : Int) < 3 := by omega
      have HU := Lib.hid (appendUint_any A2 S q c2 v wr hq.out hr.out.lies hv0.1 (by omega) (by have := (digs_len v).2; have := HHL.out; omega))
      clear hv hv0
      go_wp2_with (go_at_call 61; refine HU.out.mono ?_; rintro e w1 ⟨g1, c1, rfl, m1, b1⟩; have R1 := Lib.hid m1.row; have B1 := Lib.hid b1; clear m1 b1)
      go_roundw
      case rel => exact ⟨i + 1, _, c1, _, by omega, by go_num, rfl, Lib.hid (by rw [HH.out, List.length_append]), Lib.hid (by rw [HH.out]; exact R1.out.mono hb.out.size), Lib.hid (hb.out.trans (B1.out.mono hb.out.size))⟩
      case measure => simp [intOf]; omega
    · obtain rfl : i = 3 := by omega
      have eh : ([(x : Int), n, m].take 3).flatMap digs = digs x ++ (digs n ++ digs m) := by simp
      rw [eh] at hq hr
      have HHL := Lib.hid (heads_len x n m 3)
      rw [eh] at HHL
      obtain ⟨S, hS⟩ : ∃ S, digs (x : Int) ++ (digs (n : Int) ++ digs (m : Int)) = S := ⟨_, rfl⟩
      rw [hS] at hq hr HHL
      have HS := Lib.hid hS
      have HX : Hid (wr.heap[w.heap.size]? = some (.cells #[.int .i64 x, .slice A n c, .slice C m d] 160 (0, 0))) := Lib.hid ((hb.out.block _ (by have := HK.out.2.2; omega)).trans HK.out.1)
      have HB3 : Hid (Below B w wr) := Lib.hid ((HW.out.mono HB.out).trans (hb.out.mono (by have := HB.out; have := HW.out.size; omega)))
      have HF3 := Lib.hid (HF.out.kept hb.out (Nat.le_refl _))
      have HS3 := Lib.hid hr.out.lies
      have T1 := Lib.hid trivial
      have T2 := Lib.hid trivial
      have T3 := Lib.hid trivial
      have hf20 : f ≤ 20000000 := hf2
      clear hS c0
      go_wp2_with (first
        | (have t1 := T1; at_builtin; refine wpList_append_rowg _ rfl (.tmp 27) (.tmp 28) rfl B E e F S A2 f q c2 rfl rfl HFL.out hq.out HF3.out HS3.out (by have := HB.out; have := HB3.out.size; omega) (by have := HFL.out; have := HHL.out; omega) ?_; intro A3 c3 w3 r3 b3 g3; have R3 := Lib.hid r3; have B3 : Hid (Below B w w3) := Lib.hid (HB3.out.trans b3); have X3 := Lib.hid (block_beside (by decide) HX.out HF3.out g3); have S3 : Hid (Beside w w3) := Lib.hid ((Beside.of_below HW.out).trans ((Beside.of_below hb.out).trans (Beside.append HF3.out g3))); have d1 : w3.cell? ⟨w.heap.size, 1, none⟩ = some (.slice A n c) := (by simp [World.cell?, X3.out]); clear r3 b3 g3 T1 t1)
        | (have t2 := T2; at_builtin; refine wpList_append_rowg _ rfl (.tmp 30) (.tmp 32) rfl B A3 c3 (F ++ S) L A (f + q) n c rfl rfl (by rw [List.length_append, HFL.out, hq.out]) (HL.out _ B3.out).len R3.out (HL.out _ B3.out).bys (by have := HB.out; have := B3.out.size; omega) (by rw [List.length_append, (HL.out _ B3.out).len]; have := HFL.out; have := HHL.out; omega) ?_; intro A4 c4 w4 r4 b4 g4; have R4 := Lib.hid r4; have B4 : Hid (Below B w w4) := Lib.hid (B3.out.trans b4); have X4 := Lib.hid (block_beside (by decide) X3.out R3.out g4); have S4 : Hid (Beside w w4) := Lib.hid (S3.out.trans (Beside.append R3.out g4)); have d2 : w4.cell? ⟨w.heap.size, 2, none⟩ = some (.slice C m d) := (by simp [World.cell?, X4.out]); clear r4 b4 g4 T2 t2)
        | (have t3 := T3; at_builtin; refine wpList_append_rowg _ rfl (.tmp 34) (.tmp 36) rfl B A4 c4 (F ++ S ++ L) V C (f + q + n) m d rfl rfl (by rw [List.length_append, List.length_append, HFL.out, hq.out, (HL.out _ B4.out).len]) (HV.out _ B4.out).len R4.out (HV.out _ B4.out).bys (by have := HB.out; have := B4.out.size; omega) (by rw [List.length_append, List.length_append, (HL.out _ B4.out).len, (HV.out _ B4.out).len]; have := HFL.out; have := HHL.out; omega) ?_; intro A5 c5 w5 r5 b5 g5; have R5 := Lib.hid r5; have B5 : Hid (Below B w w5) := Lib.hid (B4.out.trans b5); have S5 : Hid (Beside w w5) := Lib.hid (S4.out.trans (Beside.append R4.out g5)); clear r5 b5 g5 T3 t3))
      go_ret
      have hE : F ++ S ++ L ++ V = F ++ (digs x ++ (digs n ++ (digs m ++ (L ++ V)))) := by rw [← HS.out]; simp only [List.append_assoc]
      rw [← hE]
      exact ⟨A5, c5, ret_slice (by simp only [List.length_append, HFL.out, hq.out, (HL.out _ B5.out).len, (HV.out _ B5.out).len]), R5.out, B5.out, S5.out⟩
end Go.Proofs.YtmgggddnfeojmaaGreat
namespace Go.Proofs.YtmgggddnfeojmaaGreat
open Go.RowKit
set_option maxRecDepth 100000 in
set_option maxHeartbeats 4000000 in
theorem tooLong_any (A : Option Addr) (l : List Bp) (n c : Nat) (w : World) (hn : l.length = n) (h : Lies w A (pvals l)) (hl : n * 48 ≤ 140737488351232) (hs : ∀ q ∈ l, q.k.l.length ≤ 140737488351232 ∧ q.v.l.length ≤ 140737488351232) :
    Calls Tryz.prog 98 #[.slice A n c] w fun e w' => ∃ b, e = .returned (.bool b) ∧ (b = true ↔ ¬ FitP (rds l)) ∧ Below w.heap.size w w' := by
  have HP := Lib.hid (fun (w' : World) (hb : Below w.heap.size w w') => h.kept hb)
  have HS := Lib.hid hs
  have HN := Lib.hid hn
  have HR := Lib.hid (rds_len l)
  clear h hn hs
  by_cases hbig : 4096 < n
  · have HV : Hid (¬ FitP (rds l)) := Lib.hid (fun hf => by have := hf.1; rw [HR.out, HN.out] at this; omega)
    have hb' : (4096 : Int) < n := by omega
    go_enter Tryz.func98, Tryz.ntmps98
    go_wp2_with fail
    go_ret
    exact ⟨true, rfl, ⟨fun _ => HV.out, fun _ => rfl⟩, Below.refl _ _⟩
  go_enter Tryz.func98, Tryz.ntmps98
  go_wp2_with fail
  go_loopw [10] (fun t10 wr => ∃ k : Nat, k ≤ n ∧ t10 = .int .i64 k ∧ Hid (∀ x ∈ (rds l).take k, ShortP x) ∧ Hid (Below w.heap.size w wr)) (fun t10 _ => n - (intOf t10).toNat)
  case atStart => exact ⟨0, by omega, rfl, Lib.hid (fun x hx => by simp at hx), Lib.hid (Below.refl _ _)⟩
  case round =>
    obtain ⟨k, hk, rfl, hsh, hbl⟩ := hrel
    by_cases hlt : k < n
    · have hq := List.getElem?_eq_getElem (l := l) (i := k) (by have := HN.out; omega)
      generalize l[k]'(by have := HN.out; omega) = x at hq
      obtain ⟨ad, rfl, a0, a1⟩ := lies_pair (HP.out _ hbl.out) hq
      have HQ := Lib.hid hq
      clear hq
      obtain ⟨⟨ka, kc, kl⟩, ⟨va, vc, vl⟩⟩ := x
      obtain ⟨m, hm⟩ : ∃ m, kl.length = m := ⟨_, rfl⟩
      obtain ⟨z, hz⟩ : ∃ m, vl.length = m := ⟨_, rfl⟩
      simp only [hm, hz] at a0 a1
      have HM := Lib.hid (And.intro hm hz)
      clear hm hz
      have i0 : (k : Int) < n := by omega
      have HB1 := Lib.hid (hbl.out.alloc hbl.out.size (.cells #[.slice ka m kc, .slice va z vc] 144))
      by_cases h1 : 200 < m
      · have HV : Hid (¬ FitP (rds l)) := Lib.hid (fit_not HQ.out (.inl (by have := HM.out.1; simp only; omega)))
        have d1 : decide (200 < (m : Int)) = true := by simp; omega
        clear h1
        go_wp2_with fail
        go_ret
        exact ⟨true, rfl, ⟨fun _ => HV.out, fun _ => rfl⟩, HB1.out⟩
      · have d1 : decide (200 < (m : Int)) = false := by simp; omega
        by_cases h2 : 4096 < z
        · have HV : Hid (¬ FitP (rds l)) := Lib.hid (fit_not HQ.out (.inr (by have := HM.out.2; simp only; omega)))
          have d2 : decide (4096 < (z : Int)) = true := by simp; omega
          clear h1 h2
          go_wp2_with fail
          go_ret
          exact ⟨true, rfl, ⟨fun _ => HV.out, fun _ => rfl⟩, HB1.out⟩
        · have d2 : decide (4096 < (z : Int)) = false := by simp; omega
          have HX := Lib.hid (short_next hsh.out (rds_get HQ.out) ⟨by have := HM.out.1; simp only [Bp.rd]; omega, by have := HM.out.2; simp only [Bp.rd]; omega⟩)
          clear h1 h2
          go_wp2_with fail
          go_roundw
          case rel => exact ⟨k + 1, by omega, by go_num, HX, HB1⟩
          case measure => simp [intOf]; omega
    · obtain rfl : k = n := by omega
      have hsh' := hsh.out
      rw [List.take_of_length_le (by rw [HR.out, HN.out]; omega)] at hsh'
      have HF : Hid (FitP (rds l)) := Lib.hid ⟨by rw [HR.out, HN.out]; omega, hsh'⟩
      go_wp2_with fail
      go_ret
      exact ⟨false, rfl, ⟨fun h => absurd h (by decide), fun h => absurd HF.out h⟩, hbl.out⟩
set_option maxRecDepth 100000 in
set_option maxHeartbeats 8000000 in
theorem build_any (A : Option Addr) (l : List Bp) (n c : Nat) (w : World) (hn : l.length = n) (h : Lies w A (pvals l)) (hi : Ins w l) (hl : n * 48 ≤ 140737488351232) (hs : ∀ q ∈ l, q.k.l.length ≤ 140737488351232 ∧ q.v.l.length ≤ 140737488351232) :
    Calls Tryz.prog 83 #[.slice A n c] w (Built w (buildP (rds l))) := by
  have HT := Lib.hid (tooLong_any A l n c w hn h hl hs)
  have HP := Lib.hid (fun (w' : World) (hb : Below w.heap.size w w') => h.kept hb)
  have HI := Lib.hid (fun (w' : World) (hb : Below w.heap.size w w') => hi.kept hb)
  have HN := Lib.hid hn
  have HR := Lib.hid (rds_len l)
  clear h hn hi hs
  by_cases hfit : FitP (rds l)
  case neg =>
    rw [buildP_long hfit]
    have HF := Lib.hid hfit
    clear hfit
    go_enter Tryz.func83, Tryz.ntmps83
    go_wp2_with (go_at_call 98; refine HT.out.mono ?_; rintro e w1 ⟨b, rfl, hb, b1⟩; obtain rfl := hb.2 HF.out; have B1 := Lib.hid b1; clear hb b1)
    go_ret2
    exact built_none ⟨rfl, B1.out⟩
  have HF := Lib.hid hfit
  clear hfit
  go_enter Tryz.func83, Tryz.ntmps83
  go_wp2_with (go_at_call 98; refine HT.out.mono ?_; rintro e w1 ⟨b, rfl, hb, b1⟩; obtain rfl : b = false := (by cases b; rfl; exact absurd HF.out (hb.1 rfl)); have B1 := Lib.hid b1; clear hb b1)
  go_loopw [4, 5, 13] (fun t4 t5 t13 wr => ∃ (k : Nat) (A2 E : Option Addr) (c2 q g gc : Nat), k ≤ n ∧ t13 = .int .i64 k ∧ t4 = .slice A2 q c2 ∧ t5 = .slice E g gc ∧ Hid ((flatP [] ((rds l).take k)).length = q) ∧ Hid (Row wr w.heap.size A2 c2 (flatP [] ((rds l).take k))) ∧ Hid (∀ W, Below w.heap.size w W → In W E (lastK [] ((rds l).take k)) g gc) ∧ Hid (risesP [] ((rds l).take k)) ∧ Hid (Below w.heap.size w wr)) (fun _ _ t13 _ => n - (intOf t13).toNat)
  case atStart => exact ⟨0, none, none, 0, 0, 0, 0, by omega, rfl, rfl, rfl, Lib.hid rfl, Lib.hid (Row.nil _ _), Lib.hid (fun W _ => ⟨rfl, Nat.le_refl _, by decide, .inl rfl, Byt.nil⟩), Lib.hid trivial, B1⟩
  case round =>
    obtain ⟨k, A2, E, c2, q, g, gc, hk, rfl, rfl, rfl, hq2, hrow, hah, hris, hbl⟩ := hrel
    by_cases hlt : k < n
    · have hq := List.getElem?_eq_getElem (l := l) (i := k) (by have := HN.out; omega)
      generalize l[k]'(by have := HN.out; omega) = x at hq
      obtain ⟨ad, rfl, a0, a1⟩ := lies_pair (HP.out _ hbl.out) hq
      have HX := Lib.hid (fun (w' : World) (hb : Below w.heap.size w w') => (HI.out w' hb) x (List.mem_of_getElem? hq))
      have HQ := Lib.hid (rds_get hq)
      have HSX := Lib.hid (HF.out.2 x.rd (List.mem_of_getElem? HQ.out))
      have HFL := Lib.hid (flatP_len [] ((rds l).take k) (fun p hp => HF.out.2 p (List.mem_of_mem_take hp)))
      have HTL : Hid (((rds l).take k).length ≤ 4096) := Lib.hid (by rw [List.length_take]; have := HF.out.1; omega)
      have HFN : Hid (flatP [] ((rds l).take (k + 1)) = flatP [] ((rds l).take k) ++ formP (lastK [] ((rds l).take k)) x.rd) := Lib.hid (by rw [take_next HQ.out, flatP_snoc])
      have HKN := Lib.hid (lastK_take HQ.out)
      clear hq
      obtain ⟨⟨ka, kc, kl⟩, ⟨va, vc, vl⟩⟩ := x
      simp only [Bp.rd] at a0 a1 HX HSX HFN HKN
      have HRN := Lib.hid (fun e => rises_next hris.out HQ.out e)
      have HRO := Lib.hid (fun e => rises_not (L := rds l) (k := k) HQ.out e)
      simp only [Bp.rd] at HRN HRO
      generalize flatP [] ((rds l).take k) = F at hq2 hrow HFL HFN
      generalize lastK [] ((rds l).take k) = G at hah HFN HRN HRO
      obtain ⟨N, hN⟩ : ∃ N, alike kl G = N := ⟨_, rfl⟩
      have hN1 := (alike_le kl G).1
      have hN2 := (alike_le kl G).2
      have hCB := cmpL_behind kl G
      rw [hN] at hN1 hN2 hCB
      have HFM : Hid (formP G (kl, vl) = digs N ++ (digs ((kl.length - N : Nat) : Int) ++ (digs vl.length ++ (kl.drop N ++ vl)))) := Lib.hid (by unfold formP; simp only [hN])
      obtain ⟨k1, hk1⟩ : ∃ k1, kl.length = N + k1 := ⟨kl.length - N, by omega⟩
      obtain ⟨z, hz⟩ : ∃ z, vl.length = z := ⟨_, rfl⟩
      have hg := (hah.out w (Below.refl _ _)).len
      obtain ⟨g1, rfl⟩ : ∃ g1, g = N + g1 := ⟨g - N, by omega⟩
      have HSK : Hid (N + k1 ≤ 200 ∧ z ≤ 4096) := Lib.hid (by have h1 := HSX.out.1; have h2 := HSX.out.2; simp only at h1 h2; omega)
      simp only [hk1, hz] at a0 a1 HX HFM
      have e1 : N + k1 - N = k1 := by omega
      rw [e1] at HFM
      have HZ := Lib.hid (And.intro hk1 hz)
      have HCB := Lib.hid hCB
      have HNA := Lib.hid hN
      clear hN hN1 hN2 hCB hk1 hz hg e1 HSX
      have i0 : (k : Int) < n := by omega
      have HBA : Hid (Below wr.heap.size wr (wr.alloc (.cells #[.slice ka (N + k1) kc, .slice va z vc] 144))) := Lib.hid (below_new _ _)
      have HPK := Lib.hid (pack_any ka va E kl vl G N k1 kc z vc (N + g1) gc (wr.alloc (.cells #[.slice ka (N + k1) kc, .slice va z vc] 144)) (HX.out _ (hbl.out.trans (HBA.out.mono hbl.out.size))).1 (HX.out _ (hbl.out.trans (HBA.out.mono hbl.out.size))).2 (hah.out _ (hbl.out.trans (HBA.out.mono hbl.out.size))) HNA.out)
      have HBX : Hid ((wr.alloc (.cells #[.slice ka (N + k1) kc, .slice va z vc] 144)).heap[wr.heap.size]? = some (.cells #[.slice ka (N + k1) kc, .slice va z vc] 144 (0, 0))) := Lib.hid (heap_alloc_new _ _)
      obtain ⟨A', hA'⟩ : ∃ A', lowA ka N kc = A' := ⟨_, rfl⟩
      have HLO : Hid (∀ W, Below w.heap.size w W → In W A' (kl.drop N) k1 (kc - N)) := Lib.hid (fun W hb => hA' ▸ (HX.out W hb).1.low_at.2)
      rw [hA'] at HPK
      clear hA'
      go_upto_region 8 with (go_at_call 99; refine HPK.out.mono ?_; rintro e w2 ⟨rfl, b2⟩; have B2 := Lib.hid (below_then HBA.out b2); have X2 := Lib.hid ((b2.block _ (by rw [World.size_alloc]; omega)).trans HBX.out); clear b2)
      have HRI := Lib.hid (rises_any N g1 A' va E (kl.drop N) G k1 (kc - N) z vc gc (w2.alloc (.cells #[.int .i64 N, .slice A' k1 (kc - N), .slice va z vc] 160)) (HLO.out _ (hbl.out.trans ((below_al B2.out _).mono hbl.out.size))) (hah.out _ (hbl.out.trans ((below_al B2.out _).mono hbl.out.size))))
      rw [HCB.out] at HRI
      have HX8 : Hid ((w2.alloc (.cells #[.int .i64 N, .slice A' k1 (kc - N), .slice va z vc] 160)).heap[w2.heap.size]? = some (.cells #[.int .i64 N, .slice A' k1 (kc - N), .slice va z vc] 160 (0, 0))) := Lib.hid (heap_alloc_new _ _)
      have HX7 : Hid ((w2.alloc (.cells #[.int .i64 N, .slice A' k1 (kc - N), .slice va z vc] 160)).heap[wr.heap.size]? = some (.cells #[.slice ka (N + k1) kc, .slice va z vc] 144 (0, 0))) := Lib.hid (((below_new w2 _).block _ (by have := (Array.getElem?_eq_some_iff.1 X2.out).1; omega)).trans X2.out)
      by_cases hr : cmpL kl G = 1
      · have hd : decide (cmpL kl G = 1) = true := by simpa using hr
        rw [hd] at HRI
        have HRN2 := Lib.hid (HRN.out hr)
        clear hr hd
        go_upto_region 10 with (go_at_call 100; refine HRI.out.mono ?_; rintro e w3 ⟨rfl, b3⟩; have B3 := Lib.hid (below_then (below_al B2.out _) b3); have X3 := Lib.hid ((b3.block _ (Array.getElem?_eq_some_iff.1 HX7.out).1).trans HX7.out); have X8 := Lib.hid ((b3.block _ (Array.getElem?_eq_some_iff.1 HX8.out).1).trans HX8.out); clear b3)
        have d0 : w3.cell? ⟨w2.heap.size, 0, none⟩ = some (.int .i64 N) := by simp [World.cell?, X8.out]
        have d1 : w3.cell? ⟨w2.heap.size, 1, none⟩ = some (.slice A' k1 (kc - N)) := by simp [World.cell?, X8.out]
        have d2 : w3.cell? ⟨w2.heap.size, 2, none⟩ = some (.slice va z vc) := by simp [World.cell?, X8.out]
        have D3 : Hid (Below w.heap.size w w3) := Lib.hid (hbl.out.trans (B3.out.mono hbl.out.size))
        have HAP := Lib.hid (appendTo_any N A' va A2 (kl.drop N) vl F k1 (kc - N) z vc q c2 w.heap.size w3 (by have := HSK.out; omega) (by have := HSK.out; omega) (by have := HSK.out; omega) (fun W hb => HLO.out W (D3.out.trans hb)) (fun W hb => (HX.out W (D3.out.trans hb)).2) (hrow.out.kept B3.out (Nat.le_refl _)) hq2.out (by have := HFL.out; have := HTL.out; have := hq2.out; omega) D3.out.size)
        have HPE := HFN.out
        rw [HFM.out] at HPE
        rw [← HPE] at HAP
        have HPH := Lib.hid HPE
        clear HPE
        obtain ⟨P, hP⟩ : ∃ P, flatP [] ((rds l).take (k + 1)) = P := ⟨_, rfl⟩
        rw [hP] at HAP
        have HPQ := Lib.hid hP
        clear hP HPH
        obtain ⟨p, hp⟩ : ∃ p, P.length = p := ⟨_, rfl⟩
        rw [hp] at HAP
        have HPL := Lib.hid hp
        clear hp
        go_wp2_with (go_at_call 101; refine HAP.out.mono ?_; rintro e w4 ⟨A4, c4, rfl, r4, b4, s4⟩; have R4 := Lib.hid r4; have B4 : Hid (Below w.heap.size w w4) := Lib.hid (D3.out.trans b4); have X4 := Lib.hid (s4 _ _ _ (by decide) X3.out); have y0 : w4.cell? ⟨wr.heap.size, 0, none⟩ = some (.slice ka (N + k1) kc) := (by simp [World.cell?, X4.out]); clear r4 b4 s4)
        go_roundw
        case rel => exact ⟨k + 1, A4, ka, c4, p, N + k1, kc, by omega, by go_num, rfl, rfl, by rw [HPQ.out]; exact HPL, by rw [HPQ.out]; exact R4, Lib.hid (fun W hb => by rw [HKN.out]; exact (HX.out W hb).1), HRN2, B4⟩
        case measure => simp [intOf]; omega
      · have hd : decide (cmpL kl G = 1) = false := by simpa using hr
        rw [hd] at HRI
        have HV := Lib.hid (buildP_key HF.out (HRO.out hr))
        clear hr hd
        go_wp2_with (go_at_call 100; refine HRI.out.mono ?_; rintro e w3 ⟨rfl, b3⟩; have B3 := Lib.hid (below_then (below_al B2.out _) b3); clear b3)
        go_ret2
        rw [HV.out]
        exact built_none ⟨rfl, hbl.out.trans (B3.out.mono hbl.out.size)⟩
    · obtain rfl : k = n := by omega
      have e : (rds l).take k = rds l := List.take_of_length_le (by rw [HR.out, HN.out]; omega)
      rw [e] at hq2 hrow hris
      have HV := Lib.hid (buildP_ok HF.out hris.out)
      have hm := hq2.out
      clear hq2
      subst hm
      go_wp2_with fail
      go_ret2
      rw [HV.out]
      exact ⟨A2, c2, rfl, hrow.out, hbl.out⟩
end Go.Proofs.YtmgggddnfeojmaaGreat
namespace Go.Proofs.YtmgggddnfeojmaaGreat
open Go.RowKit
/-- Where a reader of numbers stands. -/
def posN (L : List Int) (a : Int) : Nat → Int
  | 0 => a
  | i + 1 => (uintP L (posN L a i)).2.1
def valN (L : List Int) (a : Int) (i : Nat) : Int := (uintP L (posN L a i)).1
def errN (L : List Int) (a : Int) (i : Nat) : Int := (uintP L (posN L a i)).2.2
theorem numsP_bad {L : List Int} {a : Int} {i : Nat} (h3 : i < 3) (h : ∀ j, j < i → errN L a j = 0) (he : errN L a i ≠ 0) : numsP L a = ((0, 0, 0), 0, errN L a i) := by
  have : i = 0 ∨ i = 1 ∨ i = 2 := by omega
  unfold numsP
  rcases this with rfl | rfl | rfl
  · have h0 : (uintP L a).2.2 ≠ 0 := he
    rw [if_pos h0]; rfl
  · have h0 : (uintP L a).2.2 = 0 := h 0 (by omega)
    have h1 : (uintP L (uintP L a).2.1).2.2 ≠ 0 := he
    rw [if_neg (fun e => e h0), if_pos h1]; rfl
  · have h0 : (uintP L a).2.2 = 0 := h 0 (by omega)
    have h1 : (uintP L (uintP L a).2.1).2.2 = 0 := h 1 (by omega)
    have h2 : (uintP L (uintP L (uintP L a).2.1).2.1).2.2 ≠ 0 := he
    rw [if_neg (fun e => e h0), if_neg (fun e => e h1), if_pos h2]; rfl
theorem numsP_fine {L : List Int} {a : Int} (h : ∀ j, j < 3 → errN L a j = 0) : numsP L a = ((valN L a 0, valN L a 1, valN L a 2), posN L a 3, 0) := by
  unfold numsP
  have h0 : (uintP L a).2.2 = 0 := h 0 (by omega)
  have h1 : (uintP L (uintP L a).2.1).2.2 = 0 := h 1 (by omega)
  have h2 : (uintP L (uintP L (uintP L a).2.1).2.1).2.2 = 0 := h 2 (by omega)
  rw [if_neg (fun e => e h0), if_neg (fun e => e h1), if_neg (fun e => e h2)]
  rfl
theorem errN_next {L : List Int} {a : Int} {i : Nat} (h : ∀ j, j < i → errN L a j = 0) (he : errN L a i = 0) : ∀ j, j < i + 1 → errN L a j = 0 := fun j hj => by
  by_cases e : j = i
  · rw [e]; exact he
  · exact h j (by omega)
/-- Bytes that can be read, in a block of bytes. -/
structure Held (w : World) (s : Sl) : Prop where
  in_ : In w s.a s.l s.l.length s.c
  blk : s.l = [] ∨ ∃ ad cur mk, s.a = some ad ∧ w.heap[ad.block]? = some (.cells cur 5 mk)
theorem Held.kept {w w' : World} {s : Sl} (h : Held w s) (hb : Below w.heap.size w w') : Held w' s := by
  refine ⟨h.in_.kept hb, ?_⟩
  rcases h.blk with e | ⟨ad, cur, mk, e, h1⟩
  · exact .inl e
  · exact .inr ⟨ad, cur, mk, e, by rw [hb.block _ (Array.getElem?_eq_some_iff.1 h1).1, h1]⟩
theorem Row.held {w : World} {B : Nat} {s : Sl} (h : Row w B s.a s.c s.l) (hB : Byt s.l) : Held w s := by
  refine ⟨h.in_ hB, ?_⟩
  rcases h.2 with ⟨_, h0⟩ | ⟨g, cap, cur, e, h1, h2, h3⟩
  · exact .inl (List.eq_nil_of_length_eq_zero h0)
  · injection e with e1 e2 e3
    exact .inr ⟨_, cur, _, e1, h2⟩
theorem Held.besideP {w w' : World} {D : Nat} {C : Option Addr} {d : Nat} {s : Sl} {T : List Bp} (h : Held w s) (hs : Prow w D C d T) (hg : w.grownBy w' (Value.slice C T.length d).ownBlock) : Held w' s := by
  rcases h.blk with e | ⟨ad, cur, mk, e, h1⟩
  · obtain ⟨k1, k2, k3, k4, k5⟩ := h.in_
    exact ⟨⟨k1, k2, k3, .inl e, k5⟩, .inl e⟩
  · have hb : w'.heap[ad.block]? = w.heap[ad.block]? := by
      refine hg.block _ (Array.getElem?_eq_some_iff.1 h1).1 (fun e' => ?_)
      rcases hs.2 with ⟨hn, _⟩ | ⟨g', cap', cur', e2, _, h2', _⟩
      · rw [hn] at e'
        simp [Value.ownBlock] at e'
      · rw [e2] at e'
        have eg : ad.block = g' := by simpa [Value.ownBlock] using e'
        rw [eg, h2'] at h1
        injection h1 with h1
        injection h1 with _ h1
        exact absurd h1 (by decide)
    obtain ⟨k1, k2, k3, k4, k5⟩ := h.in_
    refine ⟨⟨k1, k2, k3, ?_, k5⟩, .inr ⟨ad, cur, mk, e, by rw [hb, h1]⟩⟩
    rcases k4 with k4 | ⟨ad', e', k4⟩
    · exact .inl k4
    · rw [e] at e'
      injection e' with e'
      subst e'
      refine .inr ⟨ad, e, fun j x hx => ?_⟩
      have := k4 j x hx
      unfold World.cell? at this ⊢
      rw [add_block, hb]
      rw [add_block] at this
      exact this
def Helds (w : World) (l : List Bp) : Prop := ∀ q ∈ l, Held w q.k ∧ Held w q.v
theorem Helds.nil (w : World) : Helds w [] := fun _ h => by cases h
theorem Helds.kept {w w' : World} {l : List Bp} (h : Helds w l) (hb : Below w.heap.size w w') : Helds w' l := fun q hq => ⟨(h q hq).1.kept hb, (h q hq).2.kept hb⟩
theorem Helds.besideP {w w' : World} {D : Nat} {C : Option Addr} {d : Nat} {l T : List Bp} (h : Helds w l) (hs : Prow w D C d T) (hg : w.grownBy w' (Value.slice C T.length d).ownBlock) : Helds w' l := fun q hq => ⟨(h q hq).1.besideP hs hg, (h q hq).2.besideP hs hg⟩
theorem Helds.snoc {w : World} {l : List Bp} {q : Bp} (h : Helds w l) (hk : Held w q.k) (hv : Held w q.v) : Helds w (l ++ [q]) := fun x hx => by
  rcases List.mem_append.1 hx with hx | hx
  · exact h x hx
  · rw [List.mem_singleton] at hx
    subst hx
    exact ⟨hk, hv⟩
theorem Helds.ins {w : World} {l : List Bp} (h : Helds w l) : Ins w l := fun q hq => ⟨(h q hq).1.in_, (h q hq).2.in_⟩
end Go.Proofs.YtmgggddnfeojmaaGreat
