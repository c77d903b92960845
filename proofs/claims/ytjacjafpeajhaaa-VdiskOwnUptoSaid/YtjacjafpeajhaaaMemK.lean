/-
  Memory: what is marked, and what stays.
-/
import Derived.Test.YtjacjafpeajhaaaMemS
import Derived.Laws.OwnMore
namespace Go.Proofs.Ytjacjafpeajhaaa
open Go.RowKit

theorem Bys.left {w : World} {A : Option Addr} {L M : List Int} (h : Bys w A (L ++ M)) : Bys w A L := by
  rcases h with h | ⟨ad, rfl, h2⟩
  · exact .inl (List.append_eq_nil_iff.1 h).1
  · refine .inr ⟨ad, rfl, fun j u hj => h2 j u ?_⟩
    rw [List.getElem?_append_left (List.getElem?_eq_some_iff.1 hj).1]
    exact hj
/-- All is as it was in some blocks. -/
structure Kp (S : Nat → Prop) (w w' : World) : Prop where
  os : w'.os = w.os
  tape : w'.tape = w.tape
  output : w'.output = w.output
  size : w.heap.size ≤ w'.heap.size
  block : ∀ k, S k → w'.heap[k]? = w.heap[k]?
theorem Kp.refl (S : Nat → Prop) (w : World) : Kp S w w := ⟨rfl, rfl, rfl, Nat.le_refl _, fun _ _ => rfl⟩
theorem Kp.set {S : Nat → Prop} {w w' : World} (h : Kp S w w') (g i : Nat) (v : Value) (hg : ¬ S g) : Kp S w (w'.setCell ⟨g, i, none⟩ v) :=
  ⟨h.os, h.tape, h.output, by simpa using h.size, fun k hk => (Below.heap_setCell w' ⟨g, i, none⟩ v k (fun e => by have e' : k = g := e; subst e'; exact hg hk)).trans (h.block k hk)⟩
theorem Kp.below {S : Nat → Prop} {w w' : World} {B : Nat} (h : Kp S w w') (hB : ∀ k, k < B → S k) : Below B w w' := ⟨h.os, h.tape, h.output, h.size, fun k hk => h.block k (hB k hk)⟩
theorem own_kp {S : Nat → Prop} {w w' : World} {B : Nat} {e : TypeId} {size : Nat} {A : Option Addr} {n c : Nat} {xs : List Value} (h : w.ownsRow B e size (.slice A n c) n xs) (hk : Kp S w w') (hS : ∀ ad, A = some ad → S ad.block) : w'.ownsRow B e size (.slice A n c) n xs := by
  refine ⟨h.1, ?_⟩
  rcases h.2 with hn | ⟨g, cap, cur, e1, h1, h2, h3⟩
  · exact .inl hn
  · refine .inr ⟨g, cap, cur, e1, h1, ?_, h3⟩
    injection e1 with e1
    rw [hk.block g (hS _ e1), h2]
theorem own_in {w : World} {B : Nat} {e : TypeId} {size : Nat} {A : Option Addr} {n c : Nat} {xs : List Value} (h : w.ownsRow B e size (.slice A n c) n xs) : ∀ ad, A = some ad → B ≤ ad.block ∧ ad.block < w.heap.size := fun ad ha => by
  rcases h.2 with ⟨hn, _⟩ | ⟨g, cap, cur, e1, h1, h2, h3⟩
  · injection hn with hn
    rw [hn] at ha
    cases ha
  · injection e1 with e1
    rw [e1] at ha
    injection ha with ha
    subst ha
    exact ⟨h1, (Array.getElem?_eq_some_iff.1 h2).1⟩
/-- One place of a row of bytes. -/
theorem row_at {w : World} {B : Nat} {A : Option Addr} {c k : Nat} {L : List Int} (h : Row w B A c L) (hk : k < L.length) : ∃ g v, A = some ⟨g, 0, none⟩ ∧ L[k]? = some v ∧ w.cell? ⟨g, k, none⟩ = some (.int .u8 v) ∧ w.frozen? ⟨g, k, none⟩ = false ∧ ∀ u, Row (w.setCell ⟨g, k, none⟩ (.int .u8 u)) B A c (L.set k u) := by
  have h' := h
  rcases h.2 with ⟨_, h0⟩ | ⟨g, cap, cur, e, h1, _⟩
  · omega
  · injection e with e1 e2 e3
    subst e1
    subst e3
    unfold Row at h'
    refine ⟨g, L[k], rfl, List.getElem?_eq_getElem hk, ?_, h'.frozenAt _, fun u => ?_⟩
    · rw [h'.cellAt k (by omega)]
      simp [vals, hk]
    · have := (h'.stored k (.int .u8 u)).1
      unfold Row
      have e : (vals L).set k (.int .u8 u) = vals (L.set k u) := by simp [vals, List.map_set]
      rw [List.length_set, ← e]
      exact this

end Go.Proofs.Ytjacjafpeajhaaa
