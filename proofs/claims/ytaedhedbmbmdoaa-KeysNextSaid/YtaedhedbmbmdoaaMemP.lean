/-
  Memory: parts as they lie, three cells each.
-/
import Derived.Test.YtaedhedbmbmdoaaMem
import Derived.Laws.Strings
namespace Go.Proofs.Ytaedhedbmbmdoaa
open Go.RowKit

/-- A text's bytes as numbers. -/
def nums (s : ByteArray) : List Int := s.data.toList.map fun b => (b.toNat : Int)
theorem nums_len (s : ByteArray) : (nums s).length = s.size := by simp [nums]
theorem nums_byt (s : ByteArray) : Byt (nums s) := fun x hx => by
  obtain ⟨b, -, rfl⟩ := List.mem_map.1 hx
  have := b.toNat_lt
  omega
theorem nums_str (s : ByteArray) : strOfNums (nums s) = s := by
  obtain ⟨d⟩ := s
  unfold strOfNums nums
  rw [List.map_map]
  have : ((fun n : Int => UInt8.ofNat n.toNat) ∘ fun b : UInt8 => (b.toNat : Int)) = id := by
    funext b
    simp
  rw [this]
  simp
theorem nums_of_str (L : List Int) (h : Byt L) : nums (strOfNums L) = L := by
  unfold strOfNums nums
  simp only [List.map_map]
  conv => rhs; rw [← List.map_id L]
  refine List.map_congr_left fun x hx => ?_
  obtain ⟨h0, h1⟩ := h x hx
  simp only [Function.comp, id]
  have : (UInt8.ofNat x.toNat).toNat = x.toNat := by
    rw [UInt8.toNat_ofNat']
    omega
  omega
theorem nums_get (s : ByteArray) (k : Nat) (h : k < s.size) : (nums s)[k]? = some ((s[k].toNat : Nat) : Int) := by
  have : s.data.toList[k]? = some s[k] := by
    rw [Array.getElem?_toList, Array.getElem?_eq_getElem h]
    rfl
  simp [nums, this]
theorem str_inj {s t : ByteArray} (h : nums s = nums t) : s = t := by rw [← nums_str s, ← nums_str t, h]

/-- A part as it lies. -/
structure Qt where
  t : Bool
  num : Int
  s : ByteArray
def Qt.val (q : Qt) : Value := .agg #[.bool q.t, .int .i64 q.num, .string q.s]
/-- A part that can lie. -/
structure Qt.Ok (q : Qt) : Prop where
  size : q.s.size ≤ 140737488351232
  lo : -9223372036854775808 ≤ q.num
  hi : q.num ≤ 9223372036854775807
def Qt.cells (q : Qt) : List Value := [.bool q.t, .int .i64 q.num, .string q.s]
def pvals (l : List Qt) : List Value := l.flatMap Qt.cells
theorem pvals_len : ∀ l : List Qt, (pvals l).length = l.length * 3
  | [] => rfl
  | q :: l => by
    have := pvals_len l
    unfold pvals at this ⊢
    rw [List.flatMap_cons, List.length_append, this]
    simp [Qt.cells]
    omega
theorem pvals_append (l m : List Qt) : pvals (l ++ m) = pvals l ++ pvals m := by simp [pvals]
theorem pvals_get : ∀ (l : List Qt) (j : Nat) (q : Qt), l[j]? = some q → (pvals l)[j * 3]? = some (.bool q.t) ∧ (pvals l)[j * 3 + 1]? = some (.int .i64 q.num) ∧ (pvals l)[j * 3 + 2]? = some (.string q.s)
  | [], _, _, h => by simp at h
  | p :: l, 0, q, h => by
    simp at h
    subst h
    exact ⟨rfl, rfl, rfl⟩
  | p :: l, j + 1, q, h => by
    have ih := pvals_get l j q (by simpa using h)
    have e : pvals (p :: l) = .bool p.t :: .int .i64 p.num :: .string p.s :: pvals l := rfl
    rw [e]
    have e0 : (j + 1) * 3 = j * 3 + 1 + 1 + 1 := by omega
    rw [e0]
    refine ⟨by simpa using ih.1, ?_, ?_⟩
    · rw [show j * 3 + 1 + 1 + 1 + 1 = (j * 3 + 1) + 1 + 1 + 1 by omega]
      simpa using ih.2.1
    · rw [show j * 3 + 1 + 1 + 1 + 2 = (j * 3 + 2) + 1 + 1 + 1 by omega]
      simpa using ih.2.2
theorem pvals_one {l : List Qt} : ∀ u ∈ pvals l, u.oneCell' = true := fun u hu => by
  obtain ⟨q, -, h⟩ := List.mem_flatMap.1 hu
  simp [Qt.cells] at h
  rcases h with rfl | rfl | rfl <;> rfl
theorem pvals_at {l : List Qt} {j : Nat} {u : Value} (h : (pvals l)[j]? = some u) : ∃ q, l[j / 3]? = some q ∧ ((j % 3 = 0 ∧ u = .bool q.t) ∨ (j % 3 = 1 ∧ u = .int .i64 q.num) ∨ (j % 3 = 2 ∧ u = .string q.s)) := by
  have hj : j < (pvals l).length := (List.getElem?_eq_some_iff.1 h).1
  rw [pvals_len] at hj
  have hq : l[j / 3]? = some (l[j / 3]'(by omega)) := List.getElem?_eq_getElem (by omega)
  refine ⟨_, hq, ?_⟩
  obtain ⟨h0, h1, h2⟩ := pvals_get l (j / 3) _ hq
  rcases (by omega : j % 3 = 0 ∨ j % 3 = 1 ∨ j % 3 = 2) with e | e | e
  · rw [show j / 3 * 3 = j by omega, h] at h0
    exact .inl ⟨e, by simpa using h0⟩
  · rw [show j / 3 * 3 + 1 = j by omega, h] at h1
    exact .inr (.inl ⟨e, by simpa using h1⟩)
  · rw [show j / 3 * 3 + 2 = j by omega, h] at h2
    exact .inr (.inr ⟨e, by simpa using h2⟩)

/-- Parts, as they lie at an address. -/
def Pts (w : World) (A : Option Addr) (l : List Qt) : Prop := l = [] ∨ ∃ ad, A = some ad ∧ ∀ j u, (pvals l)[j]? = some u → w.cell? (ad.add j) = some u
theorem Pts.nil (w : World) (A : Option Addr) : Pts w A [] := .inl rfl
theorem Pts.kept {w w' : World} {A : Option Addr} {l : List Qt} (h : Pts w A l) (hb : Below w.heap.size w w') : Pts w' A l := by
  rcases h with h | ⟨ad, h1, h2⟩
  · exact .inl h
  · refine .inr ⟨ad, h1, fun j x hx => ?_⟩
    have hc := h2 j x hx
    rw [hb.cell (World.block_lt_of_cell? w _ hc)]
    exact hc
theorem Pts.alloc {w : World} {A : Option Addr} {l : List Qt} (h : Pts w A l) (o : Obj) : Pts (w.alloc o) A l := h.kept ((Below.refl _ _).alloc (Nat.le_refl _) o)
/-- The cells of one part, as a walk spells them. -/
def At3 (w : World) (E : Addr) (q : Qt) : Prop := w.cell? E = some (.bool q.t) ∧ w.cell? ⟨E.block, E.off + 1, none⟩ = some (.int .i64 q.num) ∧ w.cell? ⟨E.block, E.off + 2, none⟩ = some (.string q.s)
theorem Pts.at_ {w : World} {A : Option Addr} {l : List Qt} {j : Nat} {q : Qt} (h : Pts w A l) (hq : l[j]? = some q) : ∃ ad, A = some ad ∧ At3 w (ad.add (j * 3)) q := by
  rcases h with rfl | ⟨ad, rfl, h2⟩
  · simp at hq
  · obtain ⟨h0, h1, h3⟩ := pvals_get l j q hq
    refine ⟨ad, rfl, h2 _ _ h0, ?_, ?_⟩
    · have := h2 _ _ h1
      rw [← add_add] at this
      simpa [Addr.add] using this
    · have := h2 _ _ h3
      rw [← add_add] at this
      simpa [Addr.add] using this

theorem info41 : (Try.prog.info? 41).map (fun i => (i.zero, i.size, i.bytes)) = some (some (.agg #[.bool false, .int .i64 0, .string ⟨#[]⟩]), 3, 32) := by kernel_rfl

/-- A slice of parts of the call's own. -/
def Own (w : World) (B : Nat) (v : Value) (l : List Qt) : Prop := w.ownsRow B 41 3 v l.length (pvals l)

end Go.Proofs.Ytaedhedbmbmdoaa
