/-
  Twenty digits to 65536 in memory: the words for the walks over them.
-/
import Derived.Test.YtefkabkncmflpaaDoorWkC
import Derived.Deep.OwnRows
import Derived.Deep.LoopGhost
import Derived.Laws.CopyOwn
namespace Go.Proofs.YtefkabkncmflpaaDoor
open Go.RowKit

/-- Twenty digits as a value. -/
def nat20 (f : Nat → Int) : Array Value := Array.ofFn (n := 20) fun i => Value.int .u64 (f i.val)
def dig (f : Nat → Int) (i : Nat) : Value := .int .u64 (f i)
theorem nat20_size (f : Nat → Int) : (nat20 f).size = 20 := by simp [nat20]
theorem nat20_get (f : Nat → Int) (i : Nat) (h : i < 20) : (nat20 f)[i]? = some (dig f i) := by simp [nat20, dig, h]
theorem nat20_all (f : Nat → Int) : (nat20 f).all (·.oneCell') = true := by
  rw [Array.all_eq_true]
  intro i h
  simp [nat20, Value.oneCell']
theorem nat20_of (cs : Array Value) (f : Nat → Int) (h : cs.size = 20) (g : ∀ i, i < 20 → cs[i]? = some (dig f i)) : cs = nat20 f := by
  apply Array.ext_getElem?
  intro i
  by_cases hi : i < 20
  · rw [g i hi, nat20_get f i hi]
  · rw [Array.getElem?_eq_none (by omega), Array.getElem?_eq_none (by rw [nat20_size]; omega)]
theorem nat20_congr (f g : Nat → Int) (h : ∀ i, i < 20 → f i = g i) : nat20 f = nat20 g := nat20_of _ _ (nat20_size f) fun i hi => by rw [nat20_get f i hi]; simp [dig, h i hi]

theorem info58 : (Tryd.prog.info? 58).map (·.size) = some 20 := by kernel_rfl

theorem row_of (w : World) (b : Nat) (f : Nat → Int) (h : w.rowIs b 58 20 (dig f)) : w.heap[b]? = some (.cells (nat20 f) 58 (0, 0)) := by
  obtain ⟨cur, h1, h2, h3⟩ := h
  rw [h1, nat20_of cur f h2 h3]
theorem row_new (w : World) (f : Nat → Int) : (w.alloc (.cells (nat20 f) 58)).rowIs w.heap.size 58 20 (dig f) := by
  have := World.rowIs_alloc w (nat20 f) 58 (dig f) (fun i hi => nat20_get f i (by rw [nat20_size] at hi; exact hi))
  rwa [nat20_size] at this
theorem row_drewN {w : World} {b t n : Nat} {f : Nat → Value} (h : w.rowIs b t n f) (k : Nat) : (w.drewN k).rowIs b t n f := h.of_block rfl
theorem row_below {B : Nat} {w w' : World} {b t n : Nat} {f : Nat → Value} (h : w.rowIs b t n f) (hb : Below B w w') (hB : b < B) : w'.rowIs b t n f := h.of_block (hb.block b hB)

theorem zeros20 : (#[Value.int .u64 0, Value.int .u64 0, Value.int .u64 0, Value.int .u64 0, Value.int .u64 0, Value.int .u64 0, Value.int .u64 0, Value.int .u64 0, Value.int .u64 0, Value.int .u64 0, Value.int .u64 0, Value.int .u64 0, Value.int .u64 0, Value.int .u64 0, Value.int .u64 0, Value.int .u64 0, Value.int .u64 0, Value.int .u64 0, Value.int .u64 0, Value.int .u64 0] : Array Value) = nat20 fun _ => 0 := by kernel_rfl

theorem row_put {w : World} {b : Nat} {F G : Nat → Int} {t m : Nat} (h : w.rowIs b t m (dig F)) (n k : Nat) (v : Int) (e : ∀ i, i < m → G i = if i = k then v else F i) :
    ((w.drewN n).setCell ⟨b, k, none⟩ (.int .u64 v)).rowIs b t m (dig G) := by
  refine ((row_drewN h n).set k _).congr fun i hi => ?_
  by_cases h1 : i = k
  · rw [if_pos h1, dig, e i hi, if_pos h1]
  · rw [if_neg h1, dig, dig, e i hi, if_neg h1]
theorem row_put0 {w : World} {b : Nat} {F G : Nat → Int} {t m : Nat} (h : w.rowIs b t m (dig F)) (k : Nat) (v : Int) (e : ∀ i, i < m → G i = if i = k then v else F i) :
    (w.setCell ⟨b, k, none⟩ (.int .u64 v)).rowIs b t m (dig G) := row_put h 0 k v e
theorem row_put_other {w : World} {b b' k t m : Nat} {f : Nat → Value} (h : w.rowIs b t m f) (n : Nat) (v : Value) (e : b ≠ b') : ((w.drewN n).setCell ⟨b', k, none⟩ v).rowIs b t m f := (row_drewN h n).setOther (by exact e) v
theorem below_put {B : Nat} {w w' : World} (h : Below B w w') (n : Nat) {p : Addr} (hp : B ≤ p.block) (v : Value) : Below B w ((w'.drewN n).setCell p v) := (h.trans (drewN_below _ _ _)).setCell hp v

/-- A result of twenty digits, read out of its block. -/
theorem ret20 {fn : Func} {p : Tmp} (h : fn.results = #[.cell p 58]) (tmps : Array Value) (w : World) (g : Nat) (old : Array Value) (f : Nat → Int)
    (hp : tmps.getD p undef = .pointer (some ⟨g, 0, none⟩)) (hg : w.heap[g]? = some (.cells old 58 (0, 0))) :
    (results fn tmps).run Tryd.prog (w.setRow g (nat20 f)) = .ok (.agg (nat20 f)) (w.setRow g (nat20 f)) :=
  results_cell_row h tmps _ g 58 (nat20 f) (0, 0) _ hp (setRow_heap w g old _ _ _ hg) Tryd.underlying58 rfl (by rw [info58, nat20_size])

end Go.Proofs.YtefkabkncmflpaaDoor
