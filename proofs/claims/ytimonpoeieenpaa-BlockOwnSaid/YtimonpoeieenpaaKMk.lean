/-
  Memory: answers that are marked: rows of bytes, and pairs of such rows.
-/
import Derived.Test.YtimonpoeieenpaaKMemP
namespace Go.Proofs.Ytimonpoeieenpaa
open Go.RowKit

/-- Bytes that may be marked, in blocks from B to E. -/
def Spot (B E : Nat) (w : World) (A : Option Addr) (z : Nat) : Prop := z = 0 ∨ ∃ g cur, A = some ⟨g, 0, none⟩ ∧ B ≤ g ∧ g < E ∧ w.heap[g]? = some (.cells cur 5 (0, 0)) ∧ z ≤ cur.size ∧ ∀ j, j < z → ∃ x, cur[j]? = some (.int .u8 x)
theorem Row.spot {B : Nat} {w : World} {A : Option Addr} {c : Nat} {L : List Int} (h : Row w B A c L) : Spot B w.heap.size w A L.length := by
  rcases h.2 with ⟨_, h0⟩ | ⟨g, cap, cur, e, h1, h2, h3, h4, h5, h6⟩
  · exact .inl h0
  · injection e with e1 e2 e3
    subst e1
    refine .inr ⟨g, cur, rfl, h1, (Array.getElem?_eq_some_iff.1 h2).1, h2, by omega, fun j hj => ?_⟩
    have h7 : (vals L)[j]? = some (.int .u8 L[j]) := vals_of (List.getElem?_eq_getElem hj)
    rw [← h6, List.getElem?_take] at h7
    split at h7
    · exact ⟨L[j], by rw [← h7]; simp⟩
    · cases h7
theorem Spot.kept {B E F : Nat} {w w' : World} {A : Option Addr} {z : Nat} (h : Spot B E w A z) (hb : Below F w w') (hF : E ≤ F) : Spot B E w' A z := by
  rcases h with h | ⟨g, cur, e, h1, h2, h3, h4⟩
  · exact .inl h
  · exact .inr ⟨g, cur, e, h1, h2, by rw [hb.block g (by omega), h3], h4⟩
theorem Spot.mono {B B' E E' : Nat} {w : World} {A : Option Addr} {z : Nat} (h : Spot B E w A z) (hB : B' ≤ B) (hE : E ≤ E') : Spot B' E' w A z := by
  rcases h with h | ⟨g, cur, e, h1, h2, h3⟩
  · exact .inl h
  · exact .inr ⟨g, cur, e, by omega, by omega, h3⟩
theorem Spot.set {B E : Nat} {w : World} {A : Option Addr} {z g k : Nat} {y : Int} {cur : Array Value} (h : Spot B E w A z) (_hg : w.heap[g]? = some (.cells cur 5 (0, 0))) : Spot B E (w.setCell ⟨g, k, none⟩ (.int .u8 y)) A z := by
  rcases h with h | ⟨g', cur', e, h1, h2, h3, h4, h5⟩
  · exact .inl h
  · by_cases hgg : g' = g
    · subst hgg
      refine .inr ⟨g', cur'.setIfInBounds k (.int .u8 y), e, h1, h2, ?_, by simpa using h4, fun j hj => ?_⟩
      · simp [World.setCell, Array.getElem?_modify, h3]
      · obtain ⟨x, hx⟩ := h5 j hj
        by_cases hjk : k = j
        · subst hjk
          exact ⟨y, by rw [Array.getElem?_setIfInBounds_self_of_lt (by omega)]⟩
        · exact ⟨x, by rw [Array.getElem?_setIfInBounds_ne hjk, hx]⟩
    · refine .inr ⟨g', cur', e, h1, h2, ?_, h4, h5⟩
      rw [Below.heap_setCell w ⟨g, k, none⟩ _ g' hgg, h3]

/-- While a row and pairs are marked, in blocks from S to E: the pairs stand, their bytes are bytes, all else is as it was. -/
structure Mq (S E : Nat) (w0 : World) (A : Option Addr) (c : Nat) (T : List Bp) (X : Option Addr) (z : Nat) (w : World) : Prop where
  row : Prow w S A c T
  xs : Spot S E w X z
  spots : ∀ q ∈ T, Spot S E w q.k.a q.k.l.length ∧ Spot S E w q.v.a q.v.l.length
  kp : Kp (fun b => b < S ∨ E ≤ b) w0 w
theorem Mq.mark {S E : Nat} {w0 w : World} {A X A' : Option Addr} {c z z' k : Nat} {T : List Bp} (h : Mq S E w0 A c T X z w) (hs : Spot S E w A' z') (hk : k < z') :
    ∃ g x, A' = some ⟨g, 0, none⟩ ∧ w.cell? ⟨g, k, none⟩ = some (.int .u8 x) ∧ w.frozen? ⟨g, k, none⟩ = false ∧ ∀ y, Mq S E w0 A c T X z (w.setCell ⟨g, k, none⟩ (.int .u8 y)) := by
  obtain ⟨g, cur, e, h1, h2, h3, h4, h5⟩ := hs.resolve_left (by omega)
  obtain ⟨x, hx⟩ := h5 k hk
  refine ⟨g, x, e, by simp [World.cell?, h3, hx], by simp [World.frozen?, h3], fun y => ⟨?_, h.xs.set h3, fun q hq => ⟨(h.spots q hq).1.set h3, (h.spots q hq).2.set h3⟩, h.kp.set g k _ (fun hn => by omega)⟩⟩
  refine ⟨h.row.1, ?_⟩
  rcases h.row.2 with hn | ⟨g', cap, cur', e1, k1, k2, k3⟩
  · exact .inl hn
  · refine .inr ⟨g', cap, cur', e1, k1, ?_, k3⟩
    rw [Below.heap_setCell w ⟨g, k, none⟩ _ g' ?_, k2]
    intro e
    have e' : g' = g := e
    subst e'
    rw [h3] at k2
    injection k2 with k2
    injection k2 with _ k2
    exact absurd k2 (by decide)
theorem Mq.drew {S E : Nat} {w0 w : World} {A X : Option Addr} {c z : Nat} {T : List Bp} (h : Mq S E w0 A c T X z w) : Mq S E w0 A c T X z w.drew := ⟨h.row, h.xs, h.spots, ⟨h.kp.os, h.kp.tape, h.kp.output, h.kp.size, h.kp.block⟩⟩
/-- Pairs of the call's own that lie above what is marked stand. -/
theorem Kp.mades {S E : Nat} {w w' : World} {l : List Bp} (h : Mades w E l) (k : Kp (fun b => b < S ∨ E ≤ b) w w') : Mades w' E l := fun q hq =>
  ⟨own_kp (h q hq).1 k (fun ad e => .inr (own_in (h q hq).1 ad e).1), own_kp (h q hq).2 k (fun ad e => .inr (own_in (h q hq).2 ad e).1)⟩
theorem Kp.prow {S E c : Nat} {w w' : World} {A : Option Addr} {l : List Bp} (h : Prow w E A c l) (k : Kp (fun b => b < S ∨ E ≤ b) w w') : Prow w' E A c l := own_kp h k (fun ad e => .inr (own_in h ad e).1)
/-- What is marked at the start: a row made, pairs made behind it. -/
theorem mq_new {w4 w5 w6 w7 : World} {A X : Option Addr} {c cx : Nat} {L : List Int} {T : List Bp} (hx : Row w5 w4.heap.size X cx L) (b5 : Below w4.heap.size w4 w5) (hm : Mades w6 w5.heap.size T) (hp : Prow w6 w5.heap.size A c T) (b6 : Below w5.heap.size w5 w6) (b7 : Below w6.heap.size w6 w7) : Mq w4.heap.size w6.heap.size w7 A c T X L.length w7 :=
  ⟨(hp.kept b7 (Nat.le_refl _)).mono b5.size, ((hx.kept b6 (Nat.le_refl _)).spot).kept b7 (Nat.le_refl _), fun q hq => ⟨(((hm q hq).1.mono b5.size).spot).kept b7 (Nat.le_refl _), (((hm q hq).2.mono b5.size).spot).kept b7 (Nat.le_refl _)⟩, Kp.refl _ _⟩
theorem lit_one (w : World) (x : Int) : Bys (w.alloc (.cells #[.int .u8 x] 5)) (some ⟨w.heap.size, 0, none⟩) [x] := (row_made w w.heap.size [x] _ rfl (by simp) (Nat.le_refl _)).lies
theorem row_place {w : World} {B c k : Nat} {A : Option Addr} {L : List Int} {x : Int} (h : Row w B A c L) (hx : L[k]? = some x) : ∃ ad, A = some ad ∧ w.cell? (ad.add k) = some (.int .u8 x) := by
  rcases h.lies with e | ⟨ad, e, hc⟩
  · rw [e] at hx
    simp at hx
  · exact ⟨ad, e, hc k x hx⟩

end Go.Proofs.Ytimonpoeieenpaa
