/-
  Plain: the names of a log's files: six digits, their order, what is read of them.
-/
import Derived.Test.YtjppklgegpmfpaaGreatDoorPgA
import Derived.Lib.ItoaNum
import Derived.Lib.ParseIntB
import Derived.Lib.Repeat
import Derived.Shelf.Small.Wraps
namespace Go.Proofs.YtjppklgegpmfpaaGreatDoor
open Go.RowKit

theorem dec_step {n : Nat} (h : ¬ n < 10) : Lib.decDigits n = Lib.decDigits (n / 10) ++ [UInt8.ofNat (48 + n % 10)] := by
  conv => lhs; rw [Lib.decDigits, dif_neg h]
def dgt (d : Nat) : UInt8 := UInt8.ofNat (48 + d % 10)
theorem dgt_nat (d : Nat) : (dgt d).toNat = 48 + d % 10 := by
  unfold dgt
  rw [UInt8.toNat_ofNat']
  omega
/-- Six digits. -/
def six (n : Nat) : List UInt8 := [dgt (n / 100000), dgt (n / 10000), dgt (n / 1000), dgt (n / 100), dgt (n / 10), dgt n]
theorem six_len (n : Nat) : (six n).length = 6 := rfl
theorem dgt_zero {d : Nat} (h : d = 0) : dgt d = 48 := by subst h; rfl
theorem dec_six (n : Nat) (h : n ≤ 999999) : (Lib.decDigits n).length ≤ 6 ∧ List.replicate (6 - (Lib.decDigits n).length) 48 ++ Lib.decDigits n = six n := by
  have one : ∀ m, m < 10 → Lib.decDigits m = [dgt m] := fun m hm => by
    rw [Lib.decDigits, dif_pos hm]
    unfold dgt
    rw [Nat.mod_eq_of_lt hm]
  have stp : ∀ m, ¬ m < 10 → Lib.decDigits m = Lib.decDigits (m / 10) ++ [dgt m] := fun m hm => dec_step hm
  have q2 : n / 10 / 10 = n / 100 := by omega
  have q3 : n / 100 / 10 = n / 1000 := by omega
  have q4 : n / 1000 / 10 = n / 10000 := by omega
  have q5 : n / 10000 / 10 = n / 100000 := by omega
  unfold six
  rcases (by omega : n < 10 ∨ (¬ n < 10 ∧ n / 10 < 10) ∨ (¬ n / 10 < 10 ∧ n / 100 < 10) ∨ (¬ n / 100 < 10 ∧ n / 1000 < 10) ∨ (¬ n / 1000 < 10 ∧ n / 10000 < 10) ∨ (¬ n / 10000 < 10 ∧ n / 100000 < 10)) with h | ⟨h1, h⟩ | ⟨h1, h⟩ | ⟨h1, h⟩ | ⟨h1, h⟩ | ⟨h1, h⟩
  · rw [one n h, dgt_zero (show n / 100000 = 0 by omega), dgt_zero (show n / 10000 = 0 by omega), dgt_zero (show n / 1000 = 0 by omega), dgt_zero (show n / 100 = 0 by omega), dgt_zero (show n / 10 = 0 by omega)]
    exact ⟨by simp, rfl⟩
  · rw [stp n h1, one _ h, dgt_zero (show n / 100000 = 0 by omega), dgt_zero (show n / 10000 = 0 by omega), dgt_zero (show n / 1000 = 0 by omega), dgt_zero (show n / 100 = 0 by omega)]
    exact ⟨by simp, rfl⟩
  · rw [stp n (by omega), stp _ h1, q2, one _ h, dgt_zero (show n / 100000 = 0 by omega), dgt_zero (show n / 10000 = 0 by omega), dgt_zero (show n / 1000 = 0 by omega)]
    exact ⟨by simp, rfl⟩
  · rw [stp n (by omega), stp (n / 10) (by omega), q2, stp _ h1, q3, one _ h, dgt_zero (show n / 100000 = 0 by omega), dgt_zero (show n / 10000 = 0 by omega)]
    exact ⟨by simp, rfl⟩
  · rw [stp n (by omega), stp (n / 10) (by omega), q2, stp (n / 100) (by omega), q3, stp _ h1, q4, one _ h, dgt_zero (show n / 100000 = 0 by omega)]
    exact ⟨by simp, rfl⟩
  · rw [stp n (by omega), stp (n / 10) (by omega), q2, stp (n / 100) (by omega), q3, stp (n / 1000) (by omega), q4, stp _ h1, q5, one _ h]
    exact ⟨by simp, rfl⟩

/-- The digits, read. -/
theorem parse_step (M acc d : Nat) (r : List UInt8) (h1 : acc < 1844674407370955162) (h2 : acc * 10 + d % 10 ≤ M) : Lib.parseUintM M acc (dgt d :: r) = Lib.parseUintM M (acc * 10 + d % 10) r := by
  rw [Lib.parseUintM]
  have e := dgt_nat d
  rw [if_pos (by omega), if_neg (by omega), e, if_neg (by omega)]
  congr 2
  omega
theorem parse_six (n : Nat) (h : n ≤ 999999) : Lib.parseUintB 32 (six n) = .ok n := by
  unfold Lib.parseUintB
  rw [if_neg (by unfold six; simp)]
  unfold six
  rw [parse_step _ _ _ _ (by omega) (by omega), parse_step _ _ _ _ (by omega) (by omega), parse_step _ _ _ _ (by omega) (by omega), parse_step _ _ _ _ (by omega) (by omega), parse_step _ _ _ _ (by omega) (by omega), parse_step _ _ _ _ (by omega) (by omega), Lib.parseUintM]
  congr 1
  omega

/-- The name of a segment; of the file that takes its place. -/
def seg (p : ByteArray) (n : Nat) : ByteArray := ⟨(p.data.toList ++ (six n ++ [46, 108, 111, 103])).toArray⟩
def tmp (p : ByteArray) : ByteArray := ⟨(p.data.toList ++ [46, 116, 109, 112]).toArray⟩
theorem seg_list (p : ByteArray) (n : Nat) : (seg p n).data.toList = p.data.toList ++ (six n ++ [46, 108, 111, 103]) := rfl
theorem tmp_list (p : ByteArray) : (tmp p).data.toList = p.data.toList ++ [46, 116, 109, 112] := rfl
theorem rep_one (x : UInt8) : ∀ c, Lib.repeatL [x] c = List.replicate c x
  | 0 => rfl
  | c + 1 => by rw [Lib.repeatL, rep_one x c]; rfl
theorem seg_made (p : ByteArray) (n : Nat) (h : n ≤ 999999) : ((p ++ ⟨(Lib.repeatL [48] (6 - (Lib.decDigits n).length)).toArray⟩) ++ ⟨(Lib.decDigits n).toArray⟩) ++ ⟨#[46, 108, 111, 103]⟩ = seg p n := by
  apply ByteArray.ext
  simp only [ByteArray.data_append]
  apply Array.toList_inj.1
  rw [seg_list, ← (dec_six n h).2, rep_one]
  simp
theorem tmp_made (p : ByteArray) : p ++ ⟨#[46, 116, 109, 112]⟩ = tmp p := by
  apply ByteArray.ext
  simp only [ByteArray.data_append]
  apply Array.toList_inj.1
  rw [tmp_list]
  simp
theorem seg_size (p : ByteArray) (n : Nat) : (seg p n).size = p.size + 10 := by
  show (seg p n).data.size = p.data.size + 10
  rw [← Array.length_toList, seg_list, List.length_append, Array.length_toList]
  rfl
theorem tmp_size (p : ByteArray) : (tmp p).size = p.size + 4 := by
  show (tmp p).data.size = p.data.size + 4
  rw [← Array.length_toList, tmp_list, List.length_append, Array.length_toList]
  rfl

/-- The order of names. -/
theorem less_same : ∀ p a b : List UInt8, Op.bytesLess (p ++ a) (p ++ b) = Op.bytesLess a b
  | [], _, _ => rfl
  | x :: p, a, b => by
    rw [List.cons_append, List.cons_append, Op.bytesLess, less_same p a b]
    simp
theorem dgt_lt (d e : Nat) : dgt d < dgt e ↔ d % 10 < e % 10 := by
  rw [UInt8.lt_iff_toNat_lt, dgt_nat, dgt_nat]
  omega
theorem dgt_eq (d e : Nat) : dgt d = dgt e ↔ d % 10 = e % 10 := by
  rw [← UInt8.toNat_inj, dgt_nat, dgt_nat]
  omega
theorem seg_lt (p : ByteArray) {m n : Nat} (h : m < n) (hn : n ≤ 999999) : ltS (seg p m) (seg p n) = true := by
  unfold ltS
  rw [ByteArray.toList_eq, ByteArray.toList_eq, seg_list, seg_list, less_same, bytesLess_lt, decide_eq_true_eq]
  unfold six
  simp only [List.cons_append, List.cons_lt_cons_iff, dgt_lt, dgt_eq]
  by_cases h5 : m / 100000 = n / 100000
  · refine .inr ⟨by omega, ?_⟩
    by_cases h4 : m / 10000 = n / 10000
    · refine .inr ⟨by omega, ?_⟩
      by_cases h3 : m / 1000 = n / 1000
      · refine .inr ⟨by omega, ?_⟩
        by_cases h2 : m / 100 = n / 100
        · refine .inr ⟨by omega, ?_⟩
          by_cases h1 : m / 10 = n / 10
          · exact .inr ⟨by omega, .inl (by omega)⟩
          · exact .inl (by omega)
        · exact .inl (by omega)
      · exact .inl (by omega)
    · exact .inl (by omega)
  · exact .inl (by omega)
theorem seg_inj {p : ByteArray} {m n : Nat} (hm : m ≤ 999999) (hn : n ≤ 999999) (h : seg p m = seg p n) : m = n := by
  rcases Nat.lt_trichotomy m n with k | k | k
  · have := seg_lt p k hn
    rw [h, ltS_irrefl] at this
    cases this
  · exact k
  · have := seg_lt p k hm
    rw [h, ltS_irrefl] at this
    cases this
theorem tmp_lt (p : ByteArray) (n : Nat) : ltS (tmp p) (seg p n) = true := by
  unfold ltS
  rw [ByteArray.toList_eq, ByteArray.toList_eq, seg_list, tmp_list, less_same, bytesLess_lt, decide_eq_true_eq]
  unfold six
  simp only [List.cons_append, List.cons_lt_cons_iff]
  left
  rw [UInt8.lt_iff_toNat_lt, dgt_nat]
  show 46 < _
  omega
theorem tmp_ne (p : ByteArray) (n : Nat) : tmp p ≠ seg p n := fun h => by
  have := tmp_lt p n
  rw [h, ltS_irrefl] at this
  cases this

/-- A prefix: one to eight letters. -/
structure IsPre (p : ByteArray) : Prop where
  low : 1 ≤ p.size
  high : p.size ≤ 8
  letter : ∀ x ∈ nums p, 97 ≤ x ∧ x ≤ 122
theorem nums_mk (L : List UInt8) : nums ⟨L.toArray⟩ = L.map (fun b => (b.toNat : Int)) := rfl
theorem seg_ok {p : ByteArray} (h : IsPre p) (n : Nat) : okName (seg p n) = true := by
  unfold okName
  rw [seg_size]
  have h1 := h.low
  have h2 := h.high
  have d1 : decide (1 ≤ p.size + 10) = true := by simp
  have d2 : decide (p.size + 10 ≤ 32) = true := by simp; omega
  rw [d1, d2, Bool.and_true, Bool.and_true, List.all_eq_true]
  intro x hx
  unfold seg at hx
  rw [nums_mk, List.map_append, List.mem_append] at hx
  unfold okB
  rw [decide_eq_true_eq]
  rcases hx with hx | hx
  · exact .inl (h.letter x hx)
  · unfold six at hx
    simp only [List.cons_append, List.nil_append, List.map_cons, List.map_nil, List.mem_cons, List.not_mem_nil, or_false, dgt_nat] at hx
    rcases hx with rfl | rfl | rfl | rfl | rfl | rfl | rfl | rfl | rfl | rfl
    iterate 6 (right; left; omega)
    · exact .inr (.inr (.inl rfl))
    · left; decide
    · left; decide
    · left; decide
theorem tmp_ok {p : ByteArray} (h : IsPre p) : okName (tmp p) = true := by
  unfold okName
  rw [tmp_size]
  have h1 := h.low
  have h2 := h.high
  have d1 : decide (1 ≤ p.size + 4) = true := by simp
  have d2 : decide (p.size + 4 ≤ 32) = true := by simp; omega
  rw [d1, d2, Bool.and_true, Bool.and_true, List.all_eq_true]
  intro x hx
  unfold tmp at hx
  rw [nums_mk, List.map_append, List.mem_append] at hx
  unfold okB
  rw [decide_eq_true_eq]
  rcases hx with hx | hx
  · exact .inl (h.letter x hx)
  · simp only [List.map_cons, List.map_nil, List.mem_cons, List.not_mem_nil, or_false] at hx
    rcases hx with rfl | rfl | rfl | rfl
    · exact .inr (.inr (.inl rfl))
    · left; decide
    · left; decide
    · left; decide
theorem pre_w : IsPre ⟨#[119]⟩ := ⟨by decide, by decide, fun x hx => by
  have : x = 119 := by simpa [nums] using hx
  omega⟩
theorem pre_log : IsPre ⟨#[108, 111, 103]⟩ := ⟨by decide, by decide, fun x hx => by
  have : x = 108 ∨ x = 111 ∨ x = 103 := by simpa [nums] using hx
  omega⟩

end Go.Proofs.YtjppklgegpmfpaaGreatDoor
