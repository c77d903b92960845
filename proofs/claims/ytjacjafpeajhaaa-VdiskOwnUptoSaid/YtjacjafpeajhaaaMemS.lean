/-
  Memory: slices that can be read, pieces of them; slices of slices.
-/
import Derived.Test.YtjacjafpeajhaaaMemR
namespace Go.Proofs.Ytjacjafpeajhaaa
open Go.RowKit

theorem size8 (W : World) : (sizeOf (Try.prog.elem 38)).run Try.prog W = .ok 1 W := by
  have h : Try.prog.elem 38 = 5 := by kernel_rfl
  obtain ⟨i, hi, hz0, hz1, hz2⟩ := info_parts info5
  rw [h]
  simp [sizeOf, typeInfo, hi, hz1]
theorem under8 : Try.prog.underlying 38 = some (.slice (Try.prog.elem 38)) := by kernel_rfl

/-- b[a:] -/
theorem slice_low {w : World} {A : Option Addr} {L : List Int} (h : Bys w A L) (a k c : Nat) (hn : L.length = a + k) (hc : a + k ≤ c) :
    ∃ A', (∀ W, (Instr.slice 38 (.slice A (a + k) c) (some (.int .i64 (a : Int))) none none).run Try.prog W = .ok (.slice A' k (c - a)) W) ∧ Bys w A' (L.drop a) := by
  refine ⟨if c = a then A else A.map (·.add a), fun W => ?_, ?_⟩
  · rw [run_slice_l (P := Try.prog) W _ A (a + k) c under8 .i64 (a : Int) (by omega) (by omega), size8]
    simp [Result.andThen, sliced]
  · have := h.part a L.length c (by omega)
    rwa [List.take_of_length_le (by simp)] at this
/-- b[:k] -/
theorem slice_high {w : World} {A : Option Addr} {L : List Int} (h : Bys w A L) (n k c : Nat) (hn : L.length = n) (hk : k ≤ n) (hc : n ≤ c) :
    (∀ W, (Instr.slice 38 (.slice A n c) none (some (.int .i64 (k : Int))) none).run Try.prog W = .ok (.slice A k c) W) ∧ Bys w A (L.take k) := by
  refine ⟨fun W => ?_, ?_⟩
  · rw [run_slice_h (P := Try.prog) W _ A n c under8 .i64 (k : Int) (by omega) (by omega), size8]
    cases A <;> simp [Result.andThen, sliced, Addr.add]
  · rcases h with rfl | ⟨ad, rfl, h2⟩
    · left; simp
    · refine .inr ⟨ad, rfl, fun j x hx => h2 j x ?_⟩
      rw [List.getElem?_take] at hx
      split at hx
      · exact hx
      · cases hx
/-- b[a:a+k] -/
theorem slice_mid {w : World} {A : Option Addr} {L : List Int} (h : Bys w A L) (n a k c : Nat) (hn : L.length = n) (hk : a + k ≤ n) (hc : n ≤ c) :
    ∃ A', (∀ W, (Instr.slice 38 (.slice A n c) (some (.int .i64 (a : Int))) (some (.int .i64 ((a : Int) + k))) none).run Try.prog W = .ok (.slice A' k (c - a)) W) ∧ Bys w A' ((L.drop a).take k) := by
  refine ⟨if c = a then A else A.map (·.add a), fun W => ?_, h.part a k c (by omega)⟩
  have e : ((a : Int) + k).toNat = a + k := by omega
  rw [run_slice_lh (P := Try.prog) W _ A n c under8 .i64 .i64 (a : Int) ((a : Int) + k) (by omega) (by omega) (by omega), size8, e]
  simp [Result.andThen, sliced]
/-- b[a:a+k:a+k] -/
theorem slice_end {w : World} {A : Option Addr} {L : List Int} (h : Bys w A L) (n a k c : Nat) (hn : L.length = n) (hk : a + k ≤ n) (hc : n ≤ c) :
    ∃ A', (∀ W, (Instr.slice 38 (.slice A n c) (some (.int .i64 (a : Int))) (some (.int .i64 ((a : Int) + k))) (some (.int .i64 ((a : Int) + k)))).run Try.prog W = .ok (.slice A' k k) W) ∧ Bys w A' ((L.drop a).take k) := by
  refine ⟨if a + k = a then A else A.map (·.add a), fun W => ?_, ?_⟩
  · have e : ((a : Int) + k).toNat = a + k := by omega
    rw [run_slice_lhm (P := Try.prog) W _ A n c under8 .i64 .i64 .i64 (a : Int) ((a : Int) + k) ((a : Int) + k) (by omega) (by omega) (by omega) (by omega), size8, e]
    simp [Result.andThen, sliced]
  · by_cases hk0 : k = 0
    · left; simp [hk0]
    · have := h.part a k (n + a + 1) (by omega)
      rw [if_neg (by omega)] at this
      rw [if_neg (by omega)]
      exact this

/-- A slice that can be read: bytes, as they lie, its length and its room. -/
structure In (w : World) (A : Option Addr) (L : List Int) (n c : Nat) : Prop where
  len : L.length = n
  cap : n ≤ c
  top : (c : Int) ≤ 9223372036854775807
  bys : Bys w A L
  byt : Byt L

theorem In.kept {w w' : World} {A : Option Addr} {L : List Int} {n c : Nat} (h : In w A L n c) (hb : Below w.heap.size w w') : In w' A L n c := ⟨h.len, h.cap, h.top, h.bys.kept hb, h.byt⟩
theorem Row.in_ {w : World} {B c : Nat} {A : Option Addr} {L : List Int} (h : Row w B A c L) (hB : Byt L) : In w A L L.length c := ⟨rfl, (own_cap h).1, (own_cap h).2, h.lies, hB⟩
theorem Row.in_n {w : World} {B c n : Nat} {A : Option Addr} {L : List Int} (h : Row w B A c L) (hB : Byt L) (hn : L.length = n) : In w A L n c := by
  subst hn
  exact h.in_ hB
theorem lit_in (w : World) (L : List Int) (cs : Array Value) (e : cs = (vals L).toArray) (n : Nat) (hn : L.length = n) (hl : n ≤ 9) (hB : Byt L) : In (w.alloc (.cells cs 5)) (some ⟨w.heap.size, 0, none⟩) L n n := by
  subst hn
  exact (row_made w w.heap.size L cs e hl (Nat.le_refl _)).in_ hB

/-- Slices that can be read, each. -/
def AllIn (w : World) (T : List Sl) : Prop := ∀ s ∈ T, In w s.a s.l s.l.length s.c
theorem AllIn.kept {w w' : World} {T : List Sl} (h : AllIn w T) (hb : Below w.heap.size w w') : AllIn w' T := fun s hs => (h s hs).kept hb
theorem AllIn.nil (w : World) : AllIn w [] := fun _ h => by cases h
theorem AllIn.cons {w : World} {s : Sl} {T : List Sl} (h : In w s.a s.l s.l.length s.c) (k : AllIn w T) : AllIn w (s :: T) := fun x hx => by
  rcases List.mem_cons.1 hx with rfl | hx
  · exact h
  · exact k x hx
theorem AllIn.append {w : World} {S T : List Sl} (h : AllIn w S) (k : AllIn w T) : AllIn w (S ++ T) := fun x hx => by
  rcases List.mem_append.1 hx with hx | hx
  · exact h x hx
  · exact k x hx
theorem In.of_n {w : World} {A : Option Addr} {L : List Int} {n c : Nat} (h : In w A L n c) : In w A L L.length c := by
  obtain ⟨h1, h2, h3, h4, h5⟩ := h
  subst h1
  exact ⟨rfl, h2, h3, h4, h5⟩
/-- A slice in a slice of slices. -/
theorem lies_at {w : World} {A : Option Addr} {T : List Sl} {k : Nat} {s : Sl} (h : Lies w A (svals T)) (hs : T[k]? = some s) : ∃ ad, A = some ad ∧ w.cell? (ad.add k) = some (.slice s.a s.l.length s.c) := by
  have hv := svals_of hs
  rcases h with h | ⟨ad, rfl, h⟩
  · rw [h] at hv
    simp at hv
  · exact ⟨ad, rfl, h k _ hv⟩
theorem in_at {w : World} {A : Option Addr} {L : List Int} {n c k : Nat} {x : Int} (h : In w A L n c) (hx : L[k]? = some x) : ∃ ad, A = some ad ∧ w.cell? (ad.add k) = some (.int .u8 x) := by
  rcases h.bys with e | ⟨ad, rfl, hc⟩
  · rw [e] at hx
    simp at hx
  · exact ⟨ad, rfl, hc k _ hx⟩

end Go.Proofs.Ytjacjafpeajhaaa
