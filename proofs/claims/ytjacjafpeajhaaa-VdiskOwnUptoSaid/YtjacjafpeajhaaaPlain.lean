/-
  Plain: bytes. Nothing of the program.
-/
import Derived.Test.YtjacjafpeajhaaaProg
namespace Go.Proofs.Ytjacjafpeajhaaa

/-- Bytes. -/
def Byt (L : List Int) : Prop := ∀ x ∈ L, 0 ≤ x ∧ x < 256
theorem Byt.nil : Byt [] := fun _ h => by cases h
theorem Byt.head {x : Int} {L : List Int} (h : Byt (x :: L)) : 0 ≤ x ∧ x < 256 := h x (by simp)
theorem Byt.tail {x : Int} {L : List Int} (h : Byt (x :: L)) : Byt L := fun y hy => h y (List.mem_cons_of_mem _ hy)
theorem Byt.cons {x : Int} {L : List Int} (h0 : 0 ≤ x) (h1 : x < 256) (h : Byt L) : Byt (x :: L) := fun y hy => by
  rcases List.mem_cons.1 hy with rfl | hy
  · exact ⟨h0, h1⟩
  · exact h y hy
theorem Byt.append {L M : List Int} (h : Byt L) (g : Byt M) : Byt (L ++ M) := fun x hx => by
  rcases List.mem_append.1 hx with hx | hx
  · exact h x hx
  · exact g x hx
theorem Byt.drop {L : List Int} (h : Byt L) (n : Nat) : Byt (L.drop n) := fun x hx => h x (List.mem_of_mem_drop hx)
theorem Byt.take {L : List Int} (h : Byt L) (n : Nat) : Byt (L.take n) := fun x hx => h x (List.mem_of_mem_take hx)
theorem Byt.one {x : Int} (h0 : 0 ≤ x) (h1 : x < 256) : Byt [x] := Byt.cons h0 h1 Byt.nil

end Go.Proofs.Ytjacjafpeajhaaa
