/-
  Memory and plain: what a log's segments hold, as it is found.
-/
import Derived.Test.YtjppklgegpmfpaaGreatDoorWgG
import Derived.Test.YtjppklgegpmfpaaGreatDoorMemT
namespace Go.Proofs.YtjppklgegpmfpaaGreatDoor
open Go.RowKit
open Go.Maps

/-- The payloads of segments. -/
def pays (ds : List (List Int)) : List (List Int) := (ds.map (fun x => (allL x).1)).flatten
theorem pays_take {ds : List (List Int)} {i : Nat} {x : List Int} (h : ds[i]? = some x) : pays (ds.take (i + 1)) = pays (ds.take i) ++ (allL x).1 := by
  unfold pays
  rw [List.take_add_one, h]
  simp

/-- What was found, as it lies at a block. -/
def FAt (W : World) (b : Nat) (A : Option Addr) (n c cnt : Nat) (bk : Bool) (v : Value) : Prop := W.heap[b]? = some (.cells #[.slice A n c, .int .i64 (cnt : Int), .bool bk, v] 77 (0, 0))
theorem FAt.cell {W : World} {b : Nat} {A : Option Addr} {n c cnt : Nat} {bk : Bool} {v : Value} (h : FAt W b A n c cnt bk v) : W.cell? ⟨b, 0, none⟩ = some (.slice A n c) ∧ W.cell? ⟨b, 1, none⟩ = some (.int .i64 (cnt : Int)) ∧ W.cell? ⟨b, 2, none⟩ = some (.bool bk) ∧ W.cell? ⟨b, 3, none⟩ = some v := by
  unfold FAt at h
  refine ⟨?_, ?_, ?_, ?_⟩ <;> simp [World.cell?, h]
theorem FAt.frozen {W : World} {b : Nat} {A : Option Addr} {n c cnt : Nat} {bk : Bool} {v : Value} (h : FAt W b A n c cnt bk v) (i : Nat) : W.frozen? ⟨b, i, none⟩ = false := by
  unfold FAt at h
  simp [World.frozen?, h]
theorem FAt.lt {W : World} {b : Nat} {A : Option Addr} {n c cnt : Nat} {bk : Bool} {v : Value} (h : FAt W b A n c cnt bk v) : b < W.heap.size := (Array.getElem?_eq_some_iff.1 h).1
theorem FAt.of {W W' : World} {b : Nat} {A : Option Addr} {n c cnt : Nat} {bk : Bool} {v : Value} (h : FAt W b A n c cnt bk v) (e : W'.heap[b]? = W.heap[b]?) : FAt W' b A n c cnt bk v := by
  unfold FAt at h ⊢
  rw [e, h]
/-- Between two steps of the reading. -/
structure Rd (w : World) (H : Nat) (T : List Sl) (A : Option Addr) (c cnt : Nat) (W : World) : Prop where
  low : Below H w W
  res : FAt W H none 0 0 0 false (.slice none 0 0)
  f : FAt W (H + 1) A T.length c cnt false (.slice none 0 0)
  row : Srow W (H + 2) A c T
  rows : ∀ s ∈ T, Row W (H + 2) s.a s.c s.l
  byt : ∀ s ∈ T, Byt s.l
theorem Rd.size {w : World} {H : Nat} {T : List Sl} {A : Option Addr} {c cnt : Nat} {W : World} (h : Rd w H T A c cnt W) : H + 2 ≤ W.heap.size := by have := h.f.lt; omega
theorem Rd.kept {w : World} {H : Nat} {T : List Sl} {A : Option Addr} {c cnt : Nat} {W W' : World} (h : Rd w H T A c cnt W) (hb : Below W.heap.size W W') : Rd w H T A c cnt W' :=
  ⟨h.low.trans (hb.mono (by have := h.size; omega)), h.res.of (hb.block _ h.res.lt), h.f.of (hb.block _ h.f.lt), h.row.kept hb (Nat.le_refl _), fun s hs => (h.rows s hs).kept hb (Nat.le_refl _), h.byt⟩
theorem Row.setLow {W : World} {B b i c : Nat} {v : Value} {A : Option Addr} {L : List Int} (h : Row W B A c L) (hb : b < B) : Row (W.setCell ⟨b, i, none⟩ v) B A c L :=
  own_block h (fun ad ha => Below.heap_setCell W ⟨b, i, none⟩ v _ (by have := (own_in h ad ha).1; simp only; omega))
theorem Srow.setLow {W : World} {B b i c : Nat} {v : Value} {A : Option Addr} {T : List Sl} (h : Srow W B A c T) (hb : b < B) : Srow (W.setCell ⟨b, i, none⟩ v) B A c T :=
  own_block h (fun ad ha => Below.heap_setCell W ⟨b, i, none⟩ v _ (by have := (own_in h ad ha).1; simp only; omega))
theorem FAt.set0 {W : World} {b : Nat} {A A' : Option Addr} {n n' c c' cnt : Nat} {bk : Bool} {v : Value} (h : FAt W b A n c cnt bk v) : FAt (W.setCell ⟨b, 0, none⟩ (.slice A' n' c')) b A' n' c' cnt bk v := by
  unfold FAt at h ⊢
  simp [World.setCell, Array.getElem?_modify, h]
theorem FAt.set1 {W : World} {b : Nat} {A : Option Addr} {n c cnt cnt' : Nat} {bk : Bool} {v : Value} (h : FAt W b A n c cnt bk v) : FAt (W.setCell ⟨b, 1, none⟩ (.int .i64 (cnt' : Int))) b A n c cnt' bk v := by
  unfold FAt at h ⊢
  simp [World.setCell, Array.getElem?_modify, h]
theorem FAt.set2 {W : World} {b : Nat} {A : Option Addr} {n c cnt : Nat} {bk bk' : Bool} {v : Value} (h : FAt W b A n c cnt bk v) : FAt (W.setCell ⟨b, 2, none⟩ (.bool bk')) b A n c cnt bk' v := by
  unfold FAt at h ⊢
  simp [World.setCell, Array.getElem?_modify, h]
theorem FAt.set3 {W : World} {b : Nat} {A : Option Addr} {n c cnt : Nat} {bk : Bool} {v v' : Value} (h : FAt W b A n c cnt bk v) : FAt (W.setCell ⟨b, 3, none⟩ v') b A n c cnt bk v' := by
  unfold FAt at h ⊢
  simp [World.setCell, Array.getElem?_modify, h]
theorem Rd.count {w : World} {H : Nat} {T : List Sl} {A : Option Addr} {c cnt : Nat} {W : World} (h : Rd w H T A c cnt W) (hH : H = w.heap.size) (cnt' : Nat) : Rd w H T A c cnt' (W.setCell ⟨H + 1, 1, none⟩ (.int .i64 (cnt' : Int))) :=
  ⟨h.low.setCell (p := ⟨H + 1, 1, none⟩) (by simp only; omega) _, h.res.of (Below.heap_setCell W ⟨H + 1, 1, none⟩ _ _ (by simp only; omega)), h.f.set1, h.row.setLow (by omega), fun s hs => (h.rows s hs).setLow (by omega), h.byt⟩
theorem Rd.push {w : World} {H : Nat} {T : List Sl} {A A2 : Option Addr} {c c2 cnt : Nat} {W W3 : World} {x : Sl} {o : Obj} (h : Rd w H T A c cnt W) (hx : Row W (H + 2) x.a x.c x.l) (hB : Byt x.l)
    (r2 : Srow W3 (H + 2) A2 c2 (T ++ [x])) (b2 : Below (H + 2) (W.alloc o) W3) (g2 : (W.alloc o).grownBy W3 (Value.slice A T.length c).ownBlock) :
    Rd w H (T ++ [x]) A2 c2 cnt (W3.setCell ⟨H + 1, 0, none⟩ (.slice A2 (T.length + 1) c2)) ∧ ∀ A' c' L, Row W (H + 2) A' c' L → Row (W3.setCell ⟨H + 1, 0, none⟩ (.slice A2 (T.length + 1) c2)) (H + 2) A' c' L := by
  have hs := h.size
  have b3 : Below (H + 2) W W3 := ((Below.refl (H + 2) W).alloc hs o).trans b2
  have hrow : ∀ A' c' L, Row W (H + 2) A' c' L → Row W3 (H + 2) A' c' L := fun A' c' L hr => (hr.kept (below_new W o) (Nat.le_refl _)).beside (h.row.alloc o) g2
  refine ⟨⟨?_, ?_, ?_, r2.setLow (by omega), fun s hs' => ?_, fun s hs' => ?_⟩, fun A' c' L hr => (hrow A' c' L hr).setLow (by omega)⟩
  · exact (h.low.trans (b3.mono (by omega))).setCell (p := ⟨H + 1, 0, none⟩) (by simp only; omega) _
  · exact (h.res.of (b3.block _ (by omega))).of (Below.heap_setCell W3 ⟨H + 1, 0, none⟩ _ _ (by simp only; omega))
  · rw [List.length_append]
    exact (h.f.of (b3.block _ (by omega))).set0
  · rcases List.mem_append.1 hs' with hs' | hs'
    · exact (hrow _ _ _ (h.rows s hs')).setLow (by omega)
    · rw [List.mem_singleton.1 hs']
      exact (hrow _ _ _ hx).setLow (by omega)
  · rcases List.mem_append.1 hs' with hs' | hs'
    · exact h.byt s hs'
    · rw [List.mem_singleton.1 hs']
      exact hB

/-- What a reading has found. -/
structure Seen (w : World) (B : Nat) (A : Option Addr) (c : Nat) (T : List Sl) : Prop where
  row : Srow w B A c T
  rows : ∀ s ∈ T, Row w B s.a s.c s.l
  byt : ∀ s ∈ T, Byt s.l
/-- The segments are whole, or the last one breaks off. -/
def Whole (ds : List (List Int)) (w' : World) (H : Nat) (bk : Bool) (v : Value) : Prop :=
  (bk = false ∧ v = .slice none 0 0 ∧ ∀ x ∈ ds, (allL x).2.2 = 0) ∨ (bk = true ∧ ∃ L a wA wc, ds.getLast? = some L ∧ (allL L).2.2 ≠ 0 ∧ (allL L).2.1 = a ∧ v = .slice wA a wc ∧ In w' wA (L.take a) a wc ∧ ∀ ad, wA = some ad → H ≤ ad.block ∧ ad.block < w'.heap.size)

end Go.Proofs.YtjppklgegpmfpaaGreatDoor
