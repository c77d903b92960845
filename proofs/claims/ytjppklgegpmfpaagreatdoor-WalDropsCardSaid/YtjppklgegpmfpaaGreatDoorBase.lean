/-
  Plain and memory: names of files; what turns and what does not; files by name as they are read.
-/
import Derived.Test.YtjppklgegpmfpaaGreatDoorMem
import Derived.Test.YtjppklgegpmfpaaGreatDoorMemR
import Derived.Test.YtjppklgegpmfpaaGreatDoorMemS
import Derived.Test.YtjppklgegpmfpaaGreatDoorMemK
import Derived.Laws.Strings
import Derived.Deep.QuietTactic
import Derived.BigQuiet
import Derived.Deep.RegionLaw
import Derived.Deep.RegionHeld3
import Derived.Deep.RegionWith
import Derived.Lib.BufferMore
import Derived.Deep.CutRange
import Derived.Deep.Cut
import Derived.Deep.CutBlock
namespace Go.Proofs.YtjppklgegpmfpaaGreatDoor
open Go.RowKit

/-- A text's bytes as numbers. -/
def nums (s : ByteArray) : List Int := s.data.toList.map fun b => (b.toNat : Int)
theorem nums_len (s : ByteArray) : (nums s).length = s.size := by simp [nums]
theorem nums_get (s : ByteArray) (k : Nat) (h : k < s.size) : (nums s)[k]? = some ((s[k].toNat : Nat) : Int) := by
  have : s.data.toList[k]? = some s[k] := by
    rw [Array.getElem?_toList, Array.getElem?_eq_getElem h]
    rfl
  simp [nums, this]
theorem below_drewN {B : Nat} {a w : World} (h : Below B a w) (n : Nat) : Below B a (w.drewN n) := ⟨h.os, h.tape, h.output, h.size, h.block⟩
theorem Lies.alloc {w : World} {A : Option Addr} {xs : List Value} (h : Lies w A xs) (o : Obj) : Lies (w.alloc o) A xs := h.kept (below_new w o)
/-- A name's letter. -/
def okB (x : Int) : Bool := decide ((97 ≤ x ∧ x ≤ 122) ∨ (48 ≤ x ∧ x ≤ 57) ∨ x = 46 ∨ x = 45)
/-- A file's name. -/
def okName (s : ByteArray) : Bool := (nums s).all okB && (decide (1 ≤ s.size) && decide (s.size ≤ 32))
theorem okB_ways (x : Nat) : (97 ≤ x ∧ x ≤ 122 ∧ okB x = true) ∨ (¬ 97 ≤ x ∧ 48 ≤ x ∧ x ≤ 57 ∧ okB x = true) ∨ (x = 46 ∧ okB x = true) ∨ (x = 45 ∧ okB x = true) ∨ (97 ≤ x ∧ ¬ x ≤ 122 ∧ okB x = false) ∨ (¬ 97 ≤ x ∧ 48 ≤ x ∧ ¬ x ≤ 57 ∧ okB x = false) ∨ (¬ 48 ≤ x ∧ ¬ x = 46 ∧ ¬ x = 45 ∧ okB x = false) := by
  unfold okB
  by_cases h1 : 97 ≤ x
  · by_cases h2 : x ≤ 122
    · exact .inl ⟨h1, h2, by simp; omega⟩
    · exact .inr (.inr (.inr (.inr (.inl ⟨h1, h2, by simp; omega⟩))))
  · by_cases h3 : 48 ≤ x
    · by_cases h4 : x ≤ 57
      · exact .inr (.inl ⟨h1, h3, h4, by simp; omega⟩)
      · exact .inr (.inr (.inr (.inr (.inr (.inl ⟨h1, h3, h4, by simp; omega⟩)))))
    · by_cases h5 : x = 46
      · exact .inr (.inr (.inl ⟨h5, by simp; omega⟩))
      · by_cases h6 : x = 45
        · exact .inr (.inr (.inr (.inl ⟨h6, by simp; omega⟩)))
        · exact .inr (.inr (.inr (.inr (.inr (.inr ⟨h3, h5, h6, by simp; omega⟩)))))
theorem all_upto {p : Int → Bool} {L : List Int} {n : Nat} (hn : L.length = n) (h : ∀ (j : Nat) (x : Int), j < n → L[j]? = some x → p x = true) : L.all p = true := by
  rw [List.all_eq_true]
  intro x hx
  obtain ⟨j, hj, e⟩ := List.mem_iff_getElem.1 hx
  exact h j x (by omega) (by rw [List.getElem?_eq_getElem hj, e])
theorem all_not {p : Int → Bool} {L : List Int} {j : Nat} {x : Int} (hx : L[j]? = some x) (h : p x = false) : L.all p = false := by
  rw [Bool.eq_false_iff]
  intro e
  have := List.all_eq_true.1 e x (List.mem_of_getElem? hx)
  rw [h] at this
  cases this
theorem ret_slice {A : Option Addr} {n m c : Nat} (h : m = n) : Ending.returned (.slice A n c) = .returned (.slice A m c) := by rw [h]
/-- The order of names. -/
def ltS (s t : ByteArray) : Bool := Op.bytesLess s.toList t.toList
/-- An object is worked on: its blocks alone turn, and what it has then was its own or is new. -/
structure Does (S S' : Nat → Prop) (w w' : World) : Prop where
  os : w'.os = w.os
  tape : w'.tape = w.tape
  output : w'.output = w.output
  size : w.heap.size ≤ w'.heap.size
  block : ∀ k, k < w.heap.size → ¬ S k → w'.heap[k]? = w.heap[k]?
  grows : ∀ k, S' k → S k ∨ w.heap.size ≤ k
theorem Does.refl (S : Nat → Prop) (w : World) : Does S S w w := ⟨rfl, rfl, rfl, Nat.le_refl _, fun _ _ _ => rfl, fun _ h => .inl h⟩
theorem Does.trans {S S' S'' : Nat → Prop} {a b c : World} (h : Does S S' a b) (k : Does S' S'' b c) : Does S S'' a c :=
  ⟨k.os.trans h.os, k.tape.trans h.tape, k.output.trans h.output, Nat.le_trans h.size k.size, fun i hi hg => (k.block i (by have := h.size; omega) (fun hs => (h.grows i hs).elim hg (fun h => by omega))).trans (h.block i hi hg), fun i hi => (k.grows i hi).elim (fun h' => h.grows i h') (fun h' => .inr (by have := h.size; omega))⟩
theorem Does.of_below {S S' : Nat → Prop} {a b : World} (h : Below a.heap.size a b) (hS : ∀ k, S' k → S k ∨ a.heap.size ≤ k) : Does S S' a b := ⟨h.os, h.tape, h.output, h.size, fun k hk _ => h.block k hk, hS⟩
theorem Does.below {S S' : Nat → Prop} {a b : World} {B : Nat} (h : Does S S' a b) (hB : B ≤ a.heap.size) (hS : ∀ k, S k → B ≤ k) : Below B a b :=
  ⟨h.os, h.tape, h.output, h.size, fun k hk => h.block k (by omega) (fun hs => by have := hS k hs; omega)⟩
/-- All below is as it was, but for one block. -/
structure BelowX (B g : Nat) (w w' : World) : Prop where
  os : w'.os = w.os
  tape : w'.tape = w.tape
  output : w'.output = w.output
  size : w.heap.size ≤ w'.heap.size
  block : ∀ k, k < B → k ≠ g → w'.heap[k]? = w.heap[k]?
theorem BelowX.refl (B g : Nat) (w : World) : BelowX B g w w := ⟨rfl, rfl, rfl, Nat.le_refl _, fun _ _ _ => rfl⟩
theorem BelowX.trans {B g : Nat} {a b c : World} (h : BelowX B g a b) (k : BelowX B g b c) : BelowX B g a c :=
  ⟨k.os.trans h.os, k.tape.trans h.tape, k.output.trans h.output, Nat.le_trans h.size k.size, fun i hi hg => (k.block i hi hg).trans (h.block i hi hg)⟩
theorem BelowX.mono {B C g : Nat} {a b : World} (h : BelowX B g a b) (hC : C ≤ B) : BelowX C g a b := ⟨h.os, h.tape, h.output, h.size, fun i hi hg => h.block i (by omega) hg⟩
theorem below_x {B g : Nat} {a b : World} (h : Below B a b) : BelowX B g a b := ⟨h.os, h.tape, h.output, h.size, fun i hi _ => h.block i hi⟩
theorem BelowX.below {B C g : Nat} {a b : World} (h : BelowX B g a b) (hC : C ≤ B) (hg : C ≤ g) : Below C a b := ⟨h.os, h.tape, h.output, h.size, fun i hi => h.block i (by omega) (by omega)⟩
theorem belowx_set (B : Nat) (w : World) (g i : Nat) (v : Value) : BelowX B g w (w.setCell ⟨g, i, none⟩ v) :=
  ⟨rfl, rfl, rfl, by simp, fun k _ hk => Below.heap_setCell w ⟨g, i, none⟩ v k hk⟩
/-- A file's place. -/
def findM (s : ByteArray) (fs : List (ByteArray × List Int × Int)) : Option Nat := fs.findIdx? (fun p => decide (p.1 = s))
theorem map_erase {α β : Type} (f : α → β) : ∀ (l : List α) (i : Nat), (l.eraseIdx i).map f = (l.map f).eraseIdx i
  | [], _ => rfl
  | _ :: _, 0 => rfl
  | x :: l, i + 1 => by simp [map_erase f l i]
/-- The bytes of one file synced. -/
def syncM (s : ByteArray) (fs : List (ByteArray × List Int × Int)) : List (ByteArray × List Int × Int) :=
  match findM s fs with
  | none => fs
  | some i => match fs[i]? with
    | none => fs
    | some p => fs.set i (p.1, p.2.1, (p.2.1.length : Int))
theorem Bys.low {w w' : World} {A : Option Addr} {L : List Int} {B : Nat} (h : Bys w A L) (hb : Below B w w') (hl : ∀ ad, A = some ad → ad.block < B) : Bys w' A L := by
  rcases h with h | ⟨ad, rfl, h2⟩
  · exact .inl h
  · exact .inr ⟨ad, rfl, fun j x hx => by rw [hb.cell (by rw [add_block]; exact hl ad rfl)]; exact h2 j x hx⟩
/-- How many bytes all files have. -/
def sumM (fs : List (ByteArray × List Int × Int)) : Nat := (fs.map (fun p => p.2.1.length)).sum
/-- A file put in, in the order of the names. -/
def insM (p : ByteArray × List Int × Int) : List (ByteArray × List Int × Int) → List (ByteArray × List Int × Int)
  | [] => [p]
  | x :: l => if ltS p.1 x.1 then p :: x :: l else x :: insM p l
/-- Bytes laid behind a file's. -/
def appM (s : ByteArray) (b : List Int) (fs : List (ByteArray × List Int × Int)) : List (ByteArray × List Int × Int) :=
  match findM s fs with
  | none => fs
  | some i => match fs[i]? with
    | none => fs
    | some p => fs.set i (p.1, p.2.1 ++ b, p.2.2)
/-- One file's bytes. -/
def dataM (s : ByteArray) (fs : List (ByteArray × List Int × Int)) : List Int :=
  match findM s fs with
  | none => []
  | some i => match fs[i]? with
    | none => []
    | some p => p.2.1
/-- It answers bytes in new memory, and a number. -/
def Gets (w : World) (p : List Int × Int) (e : Ending) (w' : World) : Prop := ∃ A c, e = .returned (.tuple #[.slice A p.1.length c, .int .i64 p.2]) ∧ Row w' w.heap.size A c p.1 ∧ Below w.heap.size w w'
/-- One file less, if it is there. -/
def dropM (t : ByteArray) (fs : List (ByteArray × List Int × Int)) : List (ByteArray × List Int × Int) :=
  match findM t fs with
  | none => fs
  | some j => fs.eraseIdx j
/-- A file named anew. -/
def renM (s t : ByteArray) (fs : List (ByteArray × List Int × Int)) : List (ByteArray × List Int × Int) :=
  match findM s fs with
  | none => fs
  | some i => match fs[i]? with
    | none => fs
    | some p => insM (t, p.2.1, p.2.2) (dropM t (fs.eraseIdx i))
/-- How many of so many bytes are kept. -/
def keptM (keep : List Int) (n : Nat) (u : Int) : Int :=
  match keep[n]? with
  | none => 0
  | some x => if x.tmod (u + 1) < 0 then x.tmod (u + 1) + (u + 1) else x.tmod (u + 1)
/-- One file behind the crash, and how many had bytes that weren't synced. -/
def rev1 (keep : List Int) (n : Nat) (p : ByteArray × List Int × Int) : (ByteArray × List Int × Int) × Nat :=
  if 0 < (p.2.1.length : Int) - p.2.2 then ((p.1, p.2.1.take (p.2.2 + keptM keep n (p.2.1.length - p.2.2)).toNat, p.2.2 + keptM keep n (p.2.1.length - p.2.2)), n + 1)
  else ((p.1, p.2.1, p.2.1.length), n)
def revL (keep : List Int) : Nat → List (ByteArray × List Int × Int) → List (ByteArray × List Int × Int)
  | _, [] => []
  | n, p :: fs => (rev1 keep n p).1 :: revL keep (rev1 keep n p).2 fs
theorem kept_in (keep : List Int) (n : Nat) (u : Int) (hu : 0 < u) : 0 ≤ keptM keep n u ∧ keptM keep n u ≤ u := by
  unfold keptM
  cases keep[n]? with
  | none => simp; omega
  | some x =>
    have h1 := Int.emod_nonneg x (b := u + 1) (by omega)
    have h2 := Int.emod_lt_of_pos x (b := u + 1) (by omega)
    have h3 := Int.tmod_eq_emod (a := x) (b := u + 1)
    simp only
    split at h3 <;> split <;> omega
/-- Numbers, as they lie. -/
def Ints (w : World) (A : Option Addr) (L : List Int) : Prop := Lies w A (L.map (Value.int .i64))
theorem ints_at {w : World} {A : Option Addr} {L : List Int} {k : Nat} {x : Int} (h : Ints w A L) (hx : L[k]? = some x) : ∃ ad, A = some ad ∧ w.cell? (ad.add k) = some (.int .i64 x) := by
  have hv : (L.map (Value.int .i64))[k]? = some (.int .i64 x) := by simp [hx]
  rcases h with h | ⟨ad, rfl, h⟩
  · rw [h] at hv
    simp at hv
  · exact ⟨ad, rfl, h k _ hv⟩

end Go.Proofs.YtjppklgegpmfpaaGreatDoor
