/-
  What the document's Split keeps in memory.
-/
import Derived.Test.YtefkabkncmflpaaDoorRefSplit
import Derived.Test.YtefkabkncmflpaaDoorWkD
namespace Go.Proofs.YtefkabkncmflpaaDoor
open Go.RowKit Go.Sort Go.Shelf

theorem add_block (a : Addr) (i : Nat) : (a.add i).block = a.block := by unfold Addr.add; split <;> rfl
/-- What the region of the division looks at. -/
structure SplR (wr wk : World) (gz : Nat) (ad : Addr) (k : Nat) (sz x : Int) : Prop where
  z : wk.rowIs gz 58 20 (dig (ofD sz))
  c : wk.cell? (ad.add k) = some (.int .i64 x)
  bl : Below wr.heap.size wr wk
  lz : gz < wr.heap.size
  lb : ad.block < wr.heap.size
theorem SplR.keep {wr wk w' : World} {gz : Nat} {ad : Addr} {k : Nat} {sz x : Int} (h : SplR wr wk gz ad k sz x) (hb : Below wk.heap.size wk w') : SplR wr w' gz ad k sz x :=
  ⟨row_kept h.z hb, by rw [hb.cell (p := ad.add k) (by rw [add_block]; exact Nat.lt_of_lt_of_le h.lb h.bl.size)]; exact h.c, h.bl.trans (hb.mono h.bl.size), h.lz, h.lb⟩
structure SplTwo (wr wx : World) (gz : Nat) (ad : Addr) (k : Nat) (sz x : Int) (q r : Nat → Int) (g4 g5 : Nat) : Prop where
  s : SplR wr wx gz ad k sz x
  rq : wx.rowIs g4 58 20 (dig q)
  rr : wx.rowIs g5 58 20 (dig r)
  nn : g4 ≠ g5
  h4 : wr.heap.size ≤ g4
  h5 : wr.heap.size ≤ g5
theorem setRow_cell {w : World} {g : Nat} {p : Addr} (cs : Array Value) (h : p.block ≠ g) : (w.setRow g cs).cell? p = w.cell? p := cell_setRow_other w g cs p h
theorem SplTwo.set4 {wr wx : World} {gz : Nat} {ad : Addr} {k : Nat} {sz x : Int} {q r : Nat → Int} {g4 g5 : Nat} (h : SplTwo wr wx gz ad k sz x q r g4 g5) (f : Nat → Int) : SplTwo wr (wx.setRow g4 (nat20 f)) gz ad k sz x f r g4 g5 :=
  have h4 := h.h4
  have lz := h.s.lz
  have lb := h.s.lb
  have nn := h.nn
  ⟨⟨row_setRow_other _ h.s.z (by omega), by rw [setRow_cell _ (by rw [add_block]; omega)]; exact h.s.c, below_setRow h.s.bl h4 _, lz, lb⟩, row_setRow f (row_of _ _ _ h.rq), row_setRow_other _ h.rr (by omega), nn, h4, h.h5⟩
theorem SplTwo.set5 {wr wx : World} {gz : Nat} {ad : Addr} {k : Nat} {sz x : Int} {q r : Nat → Int} {g4 g5 : Nat} (h : SplTwo wr wx gz ad k sz x q r g4 g5) (f : Nat → Int) : SplTwo wr (wx.setRow g5 (nat20 f)) gz ad k sz x q f g4 g5 :=
  have h5 := h.h5
  have lz := h.s.lz
  have lb := h.s.lb
  have nn := h.nn
  ⟨⟨row_setRow_other _ h.s.z (by omega), by rw [setRow_cell _ (by rw [add_block]; omega)]; exact h.s.c, below_setRow h.s.bl h5 _, lz, lb⟩, row_setRow_other _ h.rq (by omega), row_setRow f (row_of _ _ _ h.rr), nn, h.h4, h5⟩

/-- A row of words by its numbers. -/
def ints (f : Nat → Int) (i : Nat) : Value := .int .i64 (f i)
/-- The shares and the rests beside the total. -/
structure Sp (w wr : World) (gz g1 g2 n : Nat) (sz : Int) (F R : Nat → Int) : Prop where
  z : wr.rowIs gz 58 20 (dig (ofD sz))
  s : wr.rowIs g1 2 n (ints F)
  r : wr.rowIs g2 2 n (ints R)
  n12 : g1 ≠ g2
  nz1 : gz ≠ g1
  nz2 : gz ≠ g2
  h1 : w.heap.size ≤ g1
  h2 : w.heap.size ≤ g2
  bl : Below w.heap.size w wr
theorem Sp.keep {w wr w' : World} {gz g1 g2 n : Nat} {sz : Int} {F R : Nat → Int} (h : Sp w wr gz g1 g2 n sz F R) (hb : Below wr.heap.size wr w') : Sp w w' gz g1 g2 n sz F R :=
  ⟨row_kept h.z hb, row_kept h.s hb, row_kept h.r hb, h.n12, h.nz1, h.nz2, h.h1, h.h2, h.bl.trans (hb.mono h.bl.size)⟩
def put (f : Nat → Int) (k : Nat) (v : Int) (i : Nat) : Int := if i = k then v else f i
theorem Sp.setS {w wr : World} {gz g1 g2 n : Nat} {sz : Int} {F R : Nat → Int} (h : Sp w wr gz g1 g2 n sz F R) (k : Nat) (v : Int) : Sp w (wr.setCell ⟨g1, k, none⟩ (.int .i64 v)) gz g1 g2 n sz (put F k v) R :=
  ⟨h.z.setOther h.nz1 _, (h.s.set k _).congr fun i _ => by unfold ints put; split <;> rfl, h.r.setOther (fun e => h.n12 e.symm) _, h.n12, h.nz1, h.nz2, h.h1, h.h2, h.bl.setCell h.h1 _⟩
theorem Sp.setR {w wr : World} {gz g1 g2 n : Nat} {sz : Int} {F R : Nat → Int} (h : Sp w wr gz g1 g2 n sz F R) (k : Nat) (v : Int) : Sp w (wr.setCell ⟨g2, k, none⟩ (.int .i64 v)) gz g1 g2 n sz F (put R k v) :=
  ⟨h.z.setOther h.nz2 _, h.s.setOther h.n12 _, (h.r.set k _).congr fun i _ => by unfold ints put; split <;> rfl, h.n12, h.nz1, h.nz2, h.h1, h.h2, h.bl.setCell h.h2 _⟩

end Go.Proofs.YtefkabkncmflpaaDoor
