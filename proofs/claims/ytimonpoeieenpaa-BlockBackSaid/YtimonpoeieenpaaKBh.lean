/-
  Plain and memory: numbers read one behind the other; bytes of a text, in new memory.
-/
import Derived.Test.YtimonpoeieenpaaKBg
import Derived.Lib.ConvBytes
namespace Go.Proofs.Ytimonpoeieenpaa
open Go.RowKit

/-- Where a reader of numbers stands. -/
def posN (L : List Int) (a : Int) : Nat → Int
  | 0 => a
  | i + 1 => (uintP L (posN L a i)).2.1
def valN (L : List Int) (a : Int) (i : Nat) : Int := (uintP L (posN L a i)).1
def errN (L : List Int) (a : Int) (i : Nat) : Int := (uintP L (posN L a i)).2.2
theorem numsP_bad {L : List Int} {a : Int} {i : Nat} (h3 : i < 3) (h : ∀ j, j < i → errN L a j = 0) (he : errN L a i ≠ 0) : numsP L a = ((0, 0, 0), 0, errN L a i) := by
  have : i = 0 ∨ i = 1 ∨ i = 2 := by omega
  unfold numsP
  rcases this with rfl | rfl | rfl
  · have h0 : (uintP L a).2.2 ≠ 0 := he
    rw [if_pos h0]; rfl
  · have h0 : (uintP L a).2.2 = 0 := h 0 (by omega)
    have h1 : (uintP L (uintP L a).2.1).2.2 ≠ 0 := he
    rw [if_neg (fun e => e h0), if_pos h1]; rfl
  · have h0 : (uintP L a).2.2 = 0 := h 0 (by omega)
    have h1 : (uintP L (uintP L a).2.1).2.2 = 0 := h 1 (by omega)
    have h2 : (uintP L (uintP L (uintP L a).2.1).2.1).2.2 ≠ 0 := he
    rw [if_neg (fun e => e h0), if_neg (fun e => e h1), if_pos h2]; rfl
theorem numsP_fine {L : List Int} {a : Int} (h : ∀ j, j < 3 → errN L a j = 0) : numsP L a = ((valN L a 0, valN L a 1, valN L a 2), posN L a 3, 0) := by
  unfold numsP
  have h0 : (uintP L a).2.2 = 0 := h 0 (by omega)
  have h1 : (uintP L (uintP L a).2.1).2.2 = 0 := h 1 (by omega)
  have h2 : (uintP L (uintP L (uintP L a).2.1).2.1).2.2 = 0 := h 2 (by omega)
  rw [if_neg (fun e => e h0), if_neg (fun e => e h1), if_neg (fun e => e h2)]
  rfl
theorem errN_next {L : List Int} {a : Int} {i : Nat} (h : ∀ j, j < i → errN L a j = 0) (he : errN L a i = 0) : ∀ j, j < i + 1 → errN L a j = 0 := fun j hj => by
  by_cases e : j = i
  · rw [e]; exact he
  · exact h j (by omega)

/-- Bytes that can be read, in a block of bytes. -/
structure Held (w : World) (s : Sl) : Prop where
  in_ : In w s.a s.l s.l.length s.c
  blk : s.l = [] ∨ ∃ ad cur mk, s.a = some ad ∧ w.heap[ad.block]? = some (.cells cur 5 mk)
theorem Held.kept {w w' : World} {s : Sl} (h : Held w s) (hb : Below w.heap.size w w') : Held w' s := by
  refine ⟨h.in_.kept hb, ?_⟩
  rcases h.blk with e | ⟨ad, cur, mk, e, h1⟩
  · exact .inl e
  · exact .inr ⟨ad, cur, mk, e, by rw [hb.block _ (Array.getElem?_eq_some_iff.1 h1).1, h1]⟩
theorem Row.held {w : World} {B : Nat} {s : Sl} (h : Row w B s.a s.c s.l) (hB : Byt s.l) : Held w s := by
  refine ⟨h.in_ hB, ?_⟩
  rcases h.2 with ⟨_, h0⟩ | ⟨g, cap, cur, e, h1, h2, h3⟩
  · exact .inl (List.eq_nil_of_length_eq_zero h0)
  · injection e with e1 e2 e3
    exact .inr ⟨_, cur, _, e1, h2⟩
theorem Held.besideP {w w' : World} {D : Nat} {C : Option Addr} {d : Nat} {s : Sl} {T : List Bp} (h : Held w s) (hs : Prow w D C d T) (hg : w.grownBy w' (Value.slice C T.length d).ownBlock) : Held w' s := by
  rcases h.blk with e | ⟨ad, cur, mk, e, h1⟩
  · obtain ⟨k1, k2, k3, k4, k5⟩ := h.in_
    exact ⟨⟨k1, k2, k3, .inl e, k5⟩, .inl e⟩
  · have hb : w'.heap[ad.block]? = w.heap[ad.block]? := by
      refine hg.block _ (Array.getElem?_eq_some_iff.1 h1).1 (fun e' => ?_)
      rcases hs.2 with ⟨hn, _⟩ | ⟨g', cap', cur', e2, _, h2', _⟩
      · rw [hn] at e'
        simp [Value.ownBlock] at e'
      · rw [e2] at e'
        have eg : ad.block = g' := by simpa [Value.ownBlock] using e'
        rw [eg, h2'] at h1
        injection h1 with h1
        injection h1 with _ h1
        exact absurd h1 (by decide)
    obtain ⟨k1, k2, k3, k4, k5⟩ := h.in_
    refine ⟨⟨k1, k2, k3, ?_, k5⟩, .inr ⟨ad, cur, mk, e, by rw [hb, h1]⟩⟩
    rcases k4 with k4 | ⟨ad', e', k4⟩
    · exact .inl k4
    · rw [e] at e'
      injection e' with e'
      subst e'
      refine .inr ⟨ad, e, fun j x hx => ?_⟩
      have := k4 j x hx
      unfold World.cell? at this ⊢
      rw [add_block, hb]
      rw [add_block] at this
      exact this
def Helds (w : World) (l : List Bp) : Prop := ∀ q ∈ l, Held w q.k ∧ Held w q.v
theorem Helds.nil (w : World) : Helds w [] := fun _ h => by cases h
theorem Helds.kept {w w' : World} {l : List Bp} (h : Helds w l) (hb : Below w.heap.size w w') : Helds w' l := fun q hq => ⟨(h q hq).1.kept hb, (h q hq).2.kept hb⟩
theorem Helds.besideP {w w' : World} {D : Nat} {C : Option Addr} {d : Nat} {l T : List Bp} (h : Helds w l) (hs : Prow w D C d T) (hg : w.grownBy w' (Value.slice C T.length d).ownBlock) : Helds w' l := fun q hq => ⟨(h q hq).1.besideP hs hg, (h q hq).2.besideP hs hg⟩
theorem Helds.snoc {w : World} {l : List Bp} {q : Bp} (h : Helds w l) (hk : Held w q.k) (hv : Held w q.v) : Helds w (l ++ [q]) := fun x hx => by
  rcases List.mem_append.1 hx with hx | hx
  · exact h x hx
  · rw [List.mem_singleton] at hx
    subst hx
    exact ⟨hk, hv⟩
theorem Helds.ins {w : World} {l : List Bp} (h : Helds w l) : Ins w l := fun q hq => ⟨(h q hq).1.in_, (h q hq).2.in_⟩

set_option maxRecDepth 100000 in
/-- A text's bytes, in new memory. -/
theorem conv_str (W : World) (K : List Int) (hB : Byt K) (hl : K.length ≤ 140737488355328) :
    ∃ c w', (convert 9 24 (.string (strOfNums K))).run Try.prog W = .ok (.slice (some ⟨W.heap.size, 0, none⟩) K.length c) w' ∧ Held w' ⟨some ⟨W.heap.size, 0, none⟩, c, K⟩ ∧ Below W.heap.size W w' := by
  have h := Lib.run_convert_string_bytes (P := Try.prog) W 9 24 5 (strOfNums K) Try.underlying9 Try.underlying24 Try.underlying5
  rw [str_size] at h
  have hge := grownCap_ge W K.length 0 5
  have hcm := grownCap_le_maxLen W K.length 0 5 (by unfold maxLen; omega)
  unfold maxLen at hcm
  refine ⟨_, _, h, ⟨⟨rfl, hge, by show ((grownCap W K.length 0 5 : Nat) : Int) ≤ _; omega, .inr ⟨_, rfl, fun j x hx => ?_⟩, hB⟩, .inr ⟨_, _, _, rfl, Lib.bytesWorld_at_new W 5 (strOfNums K)⟩⟩, ⟨?_, ?_, ?_, by rw [Lib.bytesWorld_size]; omega, fun k hk => Lib.bytesWorld_at_old W _ _ k hk⟩⟩
  · have hj := (List.getElem?_eq_some_iff.1 hx).1
    rw [add_head, Lib.bytesWorld_cell W 5 (strOfNums K) j (by rw [str_size]; exact hj)]
    obtain ⟨x0, x1⟩ := hB x (List.mem_of_getElem? hx)
    have e : (strOfNums K).data.toList.getD j 0 = UInt8.ofNat x.toNat := by
      rw [List.getD_eq_getElem?_getD]
      simp [strOfNums, hx]
    rw [e, UInt8.toNat_ofNat']
    congr 2
    omega
  · simp [Lib.bytesWorld, World.freeze]; try rfl
  · simp [Lib.bytesWorld, World.freeze]; try rfl
  · simp [Lib.bytesWorld, World.freeze]; try rfl
set_option maxRecDepth 100000 in
/-- Two texts, one behind the other. -/
theorem str_cat (P Q : List Int) (h : P.length + Q.length ≤ 9223372036854775807) : ∀ W : World, (Op.stringOp .add (strOfNums P) (strOfNums Q)).run Try.prog W = .ok (.string (strOfNums (P ++ Q))) W := fun W => by
  rw [run_string_add_sum W (strOfNums P) (strOfNums Q) (by rw [str_size, str_size]; exact h)]
  congr 2
  apply ByteArray.ext
  simp [strOfNums]

end Go.Proofs.Ytimonpoeieenpaa
