/-
  Memory: answers that are marked: rows of bytes, and pairs of such rows. Walks: lists copied, and bytes marked, by the law. What comes in: options, how lists are made one, versions. Walks: versions that are alike. The law: what is handed in stays; what is answered is new memory. Walks: which tables are made one: how many numbers are answered.
-/
import Derived.Test.YtcffpkflijpdjaaCJ00
import Derived.Test.YtcffpkflijpdjaaCJ01
import Derived.Test.YtcffpkflijpdjaaCJ02
import Derived.Test.YtcffpkflijpdjaaCJ03
import Derived.Test.YtcffpkflijpdjaaCJ04
import Derived.Test.YtcffpkflijpdjaaCJ05
import Derived.Test.YtcffpkflijpdjaaCJ06
import Derived.Test.YtcffpkflijpdjaaCJ07
import Derived.Test.YtcffpkflijpdjaaCJ08
import Derived.Test.YtcffpkflijpdjaaCJ09
import Derived.Test.YtcffpkflijpdjaaCJ10
import Derived.Test.YtcffpkflijpdjaaCJ11
import Derived.Test.YtcffpkflijpdjaaCJ12
import Derived.Test.YtcffpkflijpdjaaCJ13
import Derived.Test.YtcffpkflijpdjaaCJ14
import Derived.Test.YtcffpkflijpdjaaCJ15
import Derived.Test.YtcffpkflijpdjaaCJ16
set_option linter.unusedSimpArgs false
set_option linter.unusedVariables false
namespace Go.Proofs.Ytcffpkflijpdjaa
open Go.RowKit
theorem Row.spot {B : Nat} {w : World} {A : Option Addr} {c : Nat} {L : List Int} (h : Row w B A c L) : Spot B w.heap.size w A L.length := by
  rcases h.2 with ⟨_, h0⟩ | ⟨g, cap, cur, e, h1, h2, h3, h4, h5, h6⟩
  · exact .inl h0
  · injection e with e1 e2 e3
    subst e1
    refine .inr ⟨g, cur, rfl, h1, (Array.getElem?_eq_some_iff.1 h2).1, h2, by omega, fun j hj => ?_⟩
    have h7 : (vals L)[j]? = some (.int .u8 L[j]) := vals_of (List.getElem?_eq_getElem hj)
    rw [← h6, List.getElem?_take] at h7
    split at h7
    · exact ⟨L[j], by rw [← h7]; simp⟩
    · cases h7
theorem Mq.mark {S E : Nat} {w0 w : World} {A X A' : Option Addr} {c z z' k : Nat} {T : List Bp} (h : Mq S E w0 A c T X z w) (hs : Spot S E w A' z') (hk : k < z') :
    ∃ g x, A' = some ⟨g, 0, none⟩ ∧ w.cell? ⟨g, k, none⟩ = some (.int .u8 x) ∧ w.frozen? ⟨g, k, none⟩ = false ∧ ∀ y, Mq S E w0 A c T X z (w.setCell ⟨g, k, none⟩ (.int .u8 y)) := by
  obtain ⟨g, cur, e, h1, h2, h3, h4, h5⟩ := hs.resolve_left (by omega)
  obtain ⟨x, hx⟩ := h5 k hk
  refine ⟨g, x, e, by simp [World.cell?, h3, hx], by simp [World.frozen?, h3], fun y => ⟨?_, h.xs.set h3, fun q hq => ⟨(h.spots q hq).1.set h3, (h.spots q hq).2.set h3⟩, h.kp.set g k _ (fun hn => by omega)⟩⟩
  refine ⟨h.row.1, ?_⟩
  rcases h.row.2 with hn | ⟨g', cap, cur', e1, k1, k2, k3⟩
  · exact .inl hn
  · refine .inr ⟨g', cap, cur', e1, k1, ?_, k3⟩
    rw [Below.heap_setCell w ⟨g, k, none⟩ _ g' ?_, k2]
    intro e
    have e' : g' = g := e
    subst e'
    rw [h3] at k2
    injection k2 with k2
    injection k2 with _ k2
    exact absurd k2 (by decide)
end Go.Proofs.Ytcffpkflijpdjaa
namespace Go.Proofs.Ytcffpkflijpdjaa
open Go.RowKit
theorem Row.spotZ {Z : Nat → Prop} {B : Nat} {w : World} {A : Option Addr} {c : Nat} {L : List Int} (h : Row w B A c L) (hz : ∀ g, SlB A g → Z g) : SpotZ Z w A L.length := by
  rcases h.spot with h | ⟨g, cur, e, h1, h2, h3, h4⟩
  · exact .inl h
  · exact .inr ⟨g, cur, e, hz g ⟨_, e, rfl⟩, h3, h4⟩
theorem Mz.mark {Z : Nat → Prop} {w0 w : World} {A : Option Addr} {z k : Nat} (h : Mz Z w0 w) (hs : SpotZ Z w0 A z) (hk : k < z) :
    ∃ g x, A = some ⟨g, 0, none⟩ ∧ w.cell? ⟨g, k, none⟩ = some (.int .u8 x) ∧ w.frozen? ⟨g, k, none⟩ = false ∧ ∀ y, Mz Z w0 (w.setCell ⟨g, k, none⟩ (.int .u8 y)) := by
  obtain ⟨g, cur, e, h1, h3, h4, h5⟩ := (h.spots A z hs).resolve_left (by omega)
  obtain ⟨x, hx⟩ := h5 k hk
  exact ⟨g, x, e, by simp [World.cell?, h3, hx], by simp [World.frozen?, h3], fun y => ⟨fun A' z' q => (h.spots A' z' q).set h3, h.kp.set g k _ (fun hn => hn h1)⟩⟩
end Go.Proofs.Ytcffpkflijpdjaa
namespace Go.Proofs.Ytcffpkflijpdjaa
open Go.ChangeShapes Go.WideShapes Go.ChangeAt Go.RowKit
theorem cells23o : Try.prog.cellsOf 23 = 1 := by kernel_rfl
theorem cells80o : Try.prog.cellsOf 80 = 1 := by kernel_rfl
theorem cells108o : Try.prog.cellsOf 108 = 5 := by kernel_rfl
theorem cells82o : Try.prog.cellsOf 82 = 4 := by kernel_rfl
/-- A version that comes in, of a told bulk. -/
structure VUp (w : World) (A : Option Addr) (T : List Ta) (n c : Nat) : Prop where
  ts : TsIn w A T n c
  long : ∀ q ∈ T, q.lo.l.length ≤ 1048576 ∧ q.hi.l.length ≤ 1048576
section
variable {H : Type} {enc : TypeId × Value → H} {W : World} {fuel : Nat} {cs : List Value} {x : DataW H × List MemPlace}
set_option maxRecDepth 100000 in
/-- A table, read. -/
theorem open_table (h : DataW.trod enc Try.prog W 0 (fun _ => true) true fuel 108 cs = some x) :
    ∃ q : Ta, cs = q.cells ∧ (In W q.lo.a q.lo.l q.lo.l.length q.lo.c ∧ In W q.hi.a q.hi.l q.hi.l.length q.hi.c) ∧ q.lo.l.length + q.hi.l.length + 1 ≤ Rows.uptoBulk x.1 := by
  obtain ⟨xs, n, -, rfl, hlen, hxl, hf⟩ := DataW.trod_struct Try.underlying108 h
  rw [cells108o] at hlen
  have h0 : DataW.trod enc Try.prog W 0 (fun _ => true) true n 3 ((cs.drop 0).take (Try.prog.cellsOf 3)) = xs[0]? := hf 0 _ rfl
  have h1 : DataW.trod enc Try.prog W 0 (fun _ => true) true n 3 ((cs.drop 1).take (Try.prog.cellsOf 3)) = xs[1]? := hf 1 _ rfl
  have h2 : DataW.trod enc Try.prog W 0 (fun _ => true) true n 3 ((cs.drop 2).take (Try.prog.cellsOf 3)) = xs[2]? := hf 2 _ rfl
  have h3 : DataW.trod enc Try.prog W 0 (fun _ => true) true n 23 ((cs.drop 3).take (Try.prog.cellsOf 23)) = xs[3]? := hf 3 _ rfl
  have h4 : DataW.trod enc Try.prog W 0 (fun _ => true) true n 23 ((cs.drop 4).take (Try.prog.cellsOf 23)) = xs[4]? := hf 4 _ rfl
  rw [cells3o] at h0 h1 h2
  rw [cells23o] at h3 h4
  match cs, hlen, xs, hxl with
  | [u, v, t, s, r], _, [y0, y1, y2, y3, y4], _ =>
    obtain ⟨a, e1, -⟩ := open_num (h0.trans rfl)
    obtain ⟨b, f1, -⟩ := open_num (h1.trans rfl)
    obtain ⟨c, g1, -⟩ := open_num (h2.trans rfl)
    obtain ⟨lo, i1, i2, i3, -⟩ := open_byts (h3.trans rfl)
    obtain ⟨hi, j1, j2, j3, -⟩ := open_byts (h4.trans rfl)
    have a1 : u = .int .i64 a := by simpa using e1
    have a2 : v = .int .i64 b := by simpa using f1
    have a3 : t = .int .i64 c := by simpa using g1
    have a4 : s = lo.val := by simpa using i1
    have a5 : r = hi.val := by simpa using j1
    subst a1 a2 a3 a4 a5
    refine ⟨⟨a, b, c, lo, hi⟩, rfl, ⟨i2, j2⟩, ?_⟩
    simp only [Rows.uptoBulk, Rows.uptoBulkAll, List.map_cons, List.map_nil] at i3 j3 ⊢
    omega
theorem open_tabs_up (h : DataW.trod enc Try.prog W 0 (fun _ => true) true fuel 80 cs = some x) (hb : Rows.uptoBulk x.1 ≤ 1048576) : ∃ (A : Option Addr) (n c : Nat) (T : List Ta), cs = [.slice A n c] ∧ VUp W A T n c := by
  obtain ⟨A, n, c, hcs⟩ : ∃ A n c, cs = [.slice A n c] := by
    rcases Go.Deep.open_slice Try.underlying80 h with ⟨h1, -⟩ | ⟨a, len, cap, m, fu, D, Pl, h1, -⟩
    · exact ⟨none, 0, 0, h1⟩
    · exact ⟨some a, len, cap, h1⟩
  obtain ⟨l, h1, h0, h2, ds, h3, h4, h5, -⟩ := open_rows (α := Ta) Ta.cells 5 (fun _ => rfl) (by omega) cells108o Try.underlying80 h A n c hcs (fun q d => (In W q.lo.a q.lo.l q.lo.l.length q.lo.c ∧ In W q.hi.a q.hi.l q.hi.l.length q.hi.c) ∧ q.lo.l.length + q.hi.l.length + 1 ≤ Rows.uptoBulk d) (fun m cs' y hy _ _ => by
    obtain ⟨q, e1, e2, e3⟩ := open_table hy
    exact ⟨q, e1, e2, e3⟩)
  have hall : ∀ q ∈ l, In W q.lo.a q.lo.l q.lo.l.length q.lo.c ∧ In W q.hi.a q.hi.l q.hi.l.length q.hi.c := fun q hq => by
    obtain ⟨i, hi, e⟩ := List.mem_iff_getElem.1 hq
    exact (h4 i q (ds[i]'(by omega)) (by rw [List.getElem?_eq_getElem hi, e]) (List.getElem?_eq_getElem (by omega))).1
  have hs := bulk_add (fun q : Ta => q.lo.l.length + q.hi.l.length) l ds h3 (fun i q d a1 a2 => (h4 i q d a1 a2).2)
  refine ⟨A, n, c, l, hcs, ⟨h1, h2, hall, h0.1, by omega⟩, fun q hq => ?_⟩
  have := sum_mem (fun q : Ta => q.lo.l.length + q.hi.l.length) hq
  omega
set_option maxRecDepth 100000 in
theorem open_ver_cs (h : DataW.trod enc Try.prog W 0 (fun _ => true) true fuel 82 cs = some x) (hb : Rows.uptoBulk x.1 ≤ 1048576) :
    ∃ A n c T a b d, cs = [.slice A n c, .int .i64 a, .int .i64 b, .int .i64 d] ∧ VUp W A T n c := by
  obtain ⟨xs, n, -, rfl, hlen, hxl, hf⟩ := DataW.trod_struct Try.underlying82 h
  rw [cells82o] at hlen
  have h0 : DataW.trod enc Try.prog W 0 (fun _ => true) true n 80 ((cs.drop 0).take (Try.prog.cellsOf 80)) = xs[0]? := hf 0 _ rfl
  have h1 : DataW.trod enc Try.prog W 0 (fun _ => true) true n 3 ((cs.drop 1).take (Try.prog.cellsOf 3)) = xs[1]? := hf 1 _ rfl
  have h2 : DataW.trod enc Try.prog W 0 (fun _ => true) true n 3 ((cs.drop 2).take (Try.prog.cellsOf 3)) = xs[2]? := hf 2 _ rfl
  have h3 : DataW.trod enc Try.prog W 0 (fun _ => true) true n 3 ((cs.drop 3).take (Try.prog.cellsOf 3)) = xs[3]? := hf 3 _ rfl
  rw [cells3o] at h1 h2 h3
  rw [cells80o] at h0
  match cs, hlen, xs, hxl with
  | [u, v, t, s], _, [y0, y1, y2, y3], _ =>
    obtain ⟨A, n, c, T, e1, e2⟩ := open_tabs_up (h0.trans rfl) (by
      simp only [Rows.uptoBulk, Rows.uptoBulkAll, List.map_cons, List.map_nil] at hb
      omega)
    obtain ⟨a, f1, -⟩ := open_num (h1.trans rfl)
    obtain ⟨b, g1, -⟩ := open_num (h2.trans rfl)
    obtain ⟨d, i1, -⟩ := open_num (h3.trans rfl)
    have a1 : u = .slice A n c := by simpa using e1
    have a2 : v = .int .i64 a := by simpa using f1
    have a3 : t = .int .i64 b := by simpa using g1
    have a4 : s = .int .i64 d := by simpa using i1
    subst a1 a2 a3 a4
    exact ⟨A, n, c, T, a, b, d, rfl, e2⟩
end
section
variable {H : Type} {enc : TypeId × Value → H} {W : World} {fuel : Nat} {v : Value} {x : DataW H × List MemPlace}
set_option maxRecDepth 100000 in
theorem open_ver (h : DataW.trod enc Try.prog W 0 (fun _ => true) true fuel 82 v.cells.toList = some x) (hb : Rows.uptoBulk x.1 ≤ 1048576) {base : Nat} (hval : Value.okWide Try.prog W .any base 82 v) :
    ∃ (A : Option Addr) (n c : Nat) (a b d : Int), v = Value.agg #[.slice A n c, .int .i64 a, .int .i64 b, .int .i64 d] ∧ ∃ T, VUp W A T n c := by
  obtain ⟨cs, rfl, -⟩ := okWide_struct Try.underlying82 hval
  obtain ⟨A, n, c, T, a, b, d, e, h1⟩ := open_ver_cs h hb
  refine ⟨A, n, c, a, b, d, ?_, T, h1⟩
  have e2 : cs.toList = [.slice A n c, .int .i64 a, .int .i64 b, .int .i64 d] := by simpa [Value.cells] using e
  rw [show cs = cs.toList.toArray by simp, e2]
end
end Go.Proofs.Ytcffpkflijpdjaa
namespace Go.Proofs.Ytcffpkflijpdjaa
open Go.RowKit
theorem tboxes (w : World) (p q : Ta) : TBox ((w.alloc (.cells #[.int .i64 p.i, .int .i64 p.v, .int .i64 p.n, .slice p.lo.a p.lo.l.length p.lo.c, .slice p.hi.a p.hi.l.length p.hi.c] 108)).alloc (.cells #[.int .i64 q.i, .int .i64 q.v, .int .i64 q.n, .slice q.lo.a q.lo.l.length q.lo.c, .slice q.hi.a q.hi.l.length q.hi.c] 108)) w.heap.size p ∧ TBox ((w.alloc (.cells #[.int .i64 p.i, .int .i64 p.v, .int .i64 p.n, .slice p.lo.a p.lo.l.length p.lo.c, .slice p.hi.a p.hi.l.length p.hi.c] 108)).alloc (.cells #[.int .i64 q.i, .int .i64 q.v, .int .i64 q.n, .slice q.lo.a q.lo.l.length q.lo.c, .slice q.hi.a q.hi.l.length q.hi.c] 108)) (w.heap.size + 1) q := by
  refine ⟨(tbox_new w p).kept (below_new _ _), ?_⟩
  have := tbox_new (w.alloc (.cells #[.int .i64 p.i, .int .i64 p.v, .int .i64 p.n, .slice p.lo.a p.lo.l.length p.lo.c, .slice p.hi.a p.hi.l.length p.hi.c] 108)) q
  rwa [World.size_alloc] at this
set_option maxRecDepth 100000 in
set_option maxHeartbeats 8000000 in
theorem sameV_any (A B : Option Addr) (T U : List Ta) (n c d : Nat) (x1 x2 x3 : Int) (w : World) (h : TsIn w A T n c) (k : TsIn w B U n d) (he : trs T = trs U) :
    Calls Try.prog 46 #[.agg #[.slice A n c, .int .i64 x1, .int .i64 x2, .int .i64 x3], .agg #[.slice B n d, .int .i64 x1, .int .i64 x2, .int .i64 x3]] w fun e w' => e = .returned (.bool true) ∧ Below w.heap.size w w' := by
  have HT := Lib.hid h
  have HU := Lib.hid k
  have HE := Lib.hid he
  have hn9 := h.few
  obtain ⟨w1, hw1⟩ : ∃ w1, ((w.alloc (.cells #[.slice A n c, .int .i64 x1, .int .i64 x2, .int .i64 x3] 82)).alloc (.cells #[.slice B n d, .int .i64 x1, .int .i64 x2, .int .i64 x3] 82)) = w1 := ⟨_, rfl⟩
  have B1 : Hid (Below w.heap.size w w1) := Lib.hid (hw1 ▸ (below_new w _).alloc (by simp) _)
  have H1 : Hid (∀ W, Below w1.heap.size w1 W → (W.cell? ⟨w.heap.size, 0, none⟩ = some (.slice A n c) ∧ W.cell? ⟨w.heap.size, 1, none⟩ = some (.int .i64 x1) ∧ W.cell? ⟨w.heap.size, 2, none⟩ = some (.int .i64 x2) ∧ W.cell? ⟨w.heap.size, 3, none⟩ = some (.int .i64 x3)) ∧ W.cell? ⟨w.heap.size + 1, 0, none⟩ = some (.slice B n d) ∧ W.cell? ⟨w.heap.size + 1, 1, none⟩ = some (.int .i64 x1) ∧ W.cell? ⟨w.heap.size + 1, 2, none⟩ = some (.int .i64 x2) ∧ W.cell? ⟨w.heap.size + 1, 3, none⟩ = some (.int .i64 x3)) := Lib.hid (fun W hb => by
    have s1 : w1.heap.size = w.heap.size + 2 := by rw [← hw1]; simp
    have e1 := (RowKit.Below.heap_alloc (w.alloc (.cells #[.slice A n c, .int .i64 x1, .int .i64 x2, .int .i64 x3] 82)) (.cells #[.slice B n d, .int .i64 x1, .int .i64 x2, .int .i64 x3] 82) w.heap.size (by simp)).trans (heap_alloc_new w _)
    have e2 := heap_alloc_new (w.alloc (.cells #[.slice A n c, .int .i64 x1, .int .i64 x2, .int .i64 x3] 82)) (.cells #[.slice B n d, .int .i64 x1, .int .i64 x2, .int .i64 x3] 82)
    rw [hw1] at e1 e2
    rw [World.size_alloc] at e2
    exact ⟨box_four ((hb.block _ (by omega)).trans e1), box_four ((hb.block _ (by omega)).trans e2)⟩)
  obtain ⟨⟨c0, c1, c2, c3⟩, y0, y1, y2, y3⟩ := H1.out w1 (Below.refl _ _)
  clear h k he
  go_enter Try.func46, Try.ntmps46
  go_upto_region 1 with fail
  try rw [hw1]
  clear hw1
  go_wp2_with fail
  clear c1 c2 c3 y1 y2 y3
  go_loopw [39] (fun t39 wr => ∃ i : Nat, i ≤ n ∧ t39 = .int .i64 i ∧ Hid (Below w1.heap.size w1 wr)) (fun t39 _ => n - (intOf t39).toNat)
  case atStart => exact ⟨0, by omega, rfl, Lib.hid (Below.refl _ _)⟩
  case round =>
    obtain ⟨i, hi, rfl, hr⟩ := hrel
    by_cases hlt : i < n
    · have hq := List.getElem?_eq_getElem (l := T) (i := i) (by have := HT.out.len; omega)
      generalize T[i]'(by have := HT.out.len; omega) = x at hq
      have hq' := List.getElem?_eq_getElem (l := U) (i := i) (by have := HU.out.len; omega)
      generalize U[i]'(by have := HU.out.len; omega) = y at hq'
      have B2 : Hid (Below w.heap.size w wr) := Lib.hid (below_then B1.out hr.out)
      have HXY : Hid (x.rd = y.rd) := Lib.hid (by
        have h1 := trs_get hq
        have h2 := trs_get hq'
        rw [HE.out, h2] at h1
        injection h1 with h1
        exact h1.symm)
      have IX := Lib.hid ((HT.out.ins.kept B2.out) x (List.mem_of_getElem? hq))
      have IY := Lib.hid ((HU.out.ins.kept B2.out) y (List.mem_of_getElem? hq'))
      obtain ⟨xi, xv, xc, ⟨xa, xb, xl⟩, ⟨ha, hb, hl⟩⟩ := x
      obtain ⟨yi, yv, yc, ⟨ya, yb, yl⟩, ⟨ga, gb, gl⟩⟩ := y
      have hxy := HXY.out
      simp only [Ta.rd, Prod.mk.injEq] at hxy
      obtain ⟨rfl, rfl, rfl, rfl, rfl⟩ := hxy
      clear HXY
      obtain ⟨ad, rfl, -, -, -, -, -⟩ := lies_table (HT.out.lies.kept B2.out) hq
      obtain ⟨bd, rfl, -, -, -, -, -⟩ := lies_table (HU.out.lies.kept B2.out) hq'
      have k0 : (i : Int) < n := by omega
      obtain ⟨xn, hxn⟩ : ∃ m, xl.length = m := ⟨_, rfl⟩
      obtain ⟨xm, hxm⟩ : ∃ m, hl.length = m := ⟨_, rfl⟩
      have HXN := Lib.hid (And.intro hxn hxm)
      have HC : Hid (∀ W, Below wr.heap.size wr W → (W.cell? ⟨w.heap.size, 0, none⟩ = some (.slice (some ad) n c) ∧ W.cell? ⟨w.heap.size + 1, 0, none⟩ = some (.slice (some bd) n d)) ∧ (W.cell? (ad.add (i * 5)) = some (.int .i64 xi) ∧ W.cell? ⟨(ad.add (i * 5)).block, (ad.add (i * 5)).off + 1, none⟩ = some (.int .i64 xv) ∧ W.cell? ⟨(ad.add (i * 5)).block, (ad.add (i * 5)).off + 2, none⟩ = some (.int .i64 xc) ∧ W.cell? ⟨(ad.add (i * 5)).block, (ad.add (i * 5)).off + 3, none⟩ = some (.slice xa xn xb) ∧ W.cell? ⟨(ad.add (i * 5)).block, (ad.add (i * 5)).off + 4, none⟩ = some (.slice ha xm hb)) ∧ (W.cell? (bd.add (i * 5)) = some (.int .i64 xi) ∧ W.cell? ⟨(bd.add (i * 5)).block, (bd.add (i * 5)).off + 1, none⟩ = some (.int .i64 xv) ∧ W.cell? ⟨(bd.add (i * 5)).block, (bd.add (i * 5)).off + 2, none⟩ = some (.int .i64 xc) ∧ W.cell? ⟨(bd.add (i * 5)).block, (bd.add (i * 5)).off + 3, none⟩ = some (.slice ya xn yb) ∧ W.cell? ⟨(bd.add (i * 5)).block, (bd.add (i * 5)).off + 4, none⟩ = some (.slice ga xm gb))) := Lib.hid (fun W hW => by
        have h0 := H1.out W (below_then hr.out hW)
        have h1 := lies_table_at (HT.out.lies.kept (below_then B2.out hW)) hq
        have h2 := lies_table_at (HU.out.lies.kept (below_then B2.out hW)) hq'
        unfold AtT at h1 h2
        simp only [hxn, hxm] at h1 h2
        exact ⟨⟨h0.1.1, h0.2.1⟩, h1, h2⟩)
      obtain ⟨⟨c0, y0⟩, ⟨a0, a1, a2, a3, a4⟩, b0, b1, b2, b3, b4⟩ := HC.out wr (Below.refl _ _)
      clear hq hq' hxn hxm
      go_upto_region 6 with fail
      go_cut [6, 7] from 42 to 51 (fun t6 t7 wx => ∃ za zb, t6 = .pointer (some ⟨za, 0, none⟩) ∧ t7 = .pointer (some ⟨zb, 0, none⟩) ∧ Hid (TBox wx za ⟨xi, xv, xc, ⟨xa, xb, xl⟩, ⟨ha, hb, hl⟩⟩ ∧ TBox wx zb ⟨xi, xv, xc, ⟨ya, yb, xl⟩, ⟨ga, gb, hl⟩⟩ ∧ Below wr.heap.size wr wx))
      case first =>
        have T12 := Lib.hid (tboxes wr ⟨xi, xv, xc, ⟨xa, xb, xl⟩, ⟨ha, hb, hl⟩⟩ ⟨xi, xv, xc, ⟨ya, yb, xl⟩, ⟨ga, gb, hl⟩⟩)
        have T21 := Lib.hid (tboxes wr ⟨xi, xv, xc, ⟨ya, yb, xl⟩, ⟨ga, gb, hl⟩⟩ ⟨xi, xv, xc, ⟨xa, xb, xl⟩, ⟨ha, hb, hl⟩⟩)
        simp only [HXN.out.1, HXN.out.2] at T12 T21
        clear a0 a1 a2 a3 a4 b0 b1 b2 b3 b4 c0 y0
        go_region_held3 (fun W => (W.cell? ⟨w.heap.size, 0, none⟩ = some (.slice (some ad) n c) ∧ W.cell? ⟨w.heap.size + 1, 0, none⟩ = some (.slice (some bd) n d)) ∧ (W.cell? (ad.add (i * 5)) = some (.int .i64 xi) ∧ W.cell? ⟨(ad.add (i * 5)).block, (ad.add (i * 5)).off + 1, none⟩ = some (.int .i64 xv) ∧ W.cell? ⟨(ad.add (i * 5)).block, (ad.add (i * 5)).off + 2, none⟩ = some (.int .i64 xc) ∧ W.cell? ⟨(ad.add (i * 5)).block, (ad.add (i * 5)).off + 3, none⟩ = some (.slice xa xn xb) ∧ W.cell? ⟨(ad.add (i * 5)).block, (ad.add (i * 5)).off + 4, none⟩ = some (.slice ha xm hb)) ∧ (W.cell? (bd.add (i * 5)) = some (.int .i64 xi) ∧ W.cell? ⟨(bd.add (i * 5)).block, (bd.add (i * 5)).off + 1, none⟩ = some (.int .i64 xv) ∧ W.cell? ⟨(bd.add (i * 5)).block, (bd.add (i * 5)).off + 2, none⟩ = some (.int .i64 xc) ∧ W.cell? ⟨(bd.add (i * 5)).block, (bd.add (i * 5)).off + 3, none⟩ = some (.slice ya xn yb) ∧ W.cell? ⟨(bd.add (i * 5)).block, (bd.add (i * 5)).off + 4, none⟩ = some (.slice ga xm gb))) (first | exact HC.out _ (Below.refl _ _) | (refine HC.out _ ?_; (repeat (first | with_reducible exact Below.refl _ _ | with_reducible refine Below.drew ?_ | with_reducible refine below_al ?_ _)); done) | go_keep) (fail)
        all_goals
          go_wp2_with fail
          go_meet
          first
            | exact ⟨wr.heap.size, wr.heap.size + 1, rfl, rfl, Lib.hid ⟨T12.out.1.kept (by repeat (first | with_reducible exact Below.refl _ _ | with_reducible refine Below.drew ?_ | with_reducible refine below_al ?_ _)), T12.out.2.kept (by repeat (first | with_reducible exact Below.refl _ _ | with_reducible refine Below.drew ?_ | with_reducible refine below_al ?_ _)), (by repeat (first | with_reducible exact Below.refl _ _ | with_reducible refine Below.drew ?_ | with_reducible refine below_al ?_ _))⟩⟩
            | exact ⟨wr.heap.size + 1, wr.heap.size, rfl, rfl, Lib.hid ⟨T21.out.2.kept (by repeat (first | with_reducible exact Below.refl _ _ | with_reducible refine Below.drew ?_ | with_reducible refine below_al ?_ _)), T21.out.1.kept (by repeat (first | with_reducible exact Below.refl _ _ | with_reducible refine Below.drew ?_ | with_reducible refine below_al ?_ _)), (by repeat (first | with_reducible exact Below.refl _ _ | with_reducible refine Below.drew ?_ | with_reducible refine below_al ?_ _))⟩⟩
      case rest =>
        obtain ⟨za, zb, rfl, rfl, hb0⟩ := hcut
        clear a0 a1 a2 a3 a4 b0 b1 b2 b3 b4 c0 y0
        obtain ⟨a0, a1, a2, a3, a4⟩ := box_five hb0.out.1
        obtain ⟨b0, b1, b2, b3, b4⟩ := box_five hb0.out.2.1
        simp only [HXN.out.1, HXN.out.2] at a3 a4 b3 b4
        have BC : Hid (Below w1.heap.size w1 wc) := Lib.hid (below_then hr.out hb0.out.2.2)
        have D0 := conv_any (IX.out.1.kept hb0.out.2.2).bys xn xb HXN.out.1
        have D1 := conv_any (IX.out.2.kept hb0.out.2.2).bys xm hb HXN.out.2
        have D2 := conv_any (IY.out.1.kept hb0.out.2.2).bys xn yb HXN.out.1
        have D3 := conv_any (IY.out.2.kept hb0.out.2.2).bys xm gb HXN.out.2
        go_wp2_with fail
        go_roundw
        case rel => exact ⟨i + 1, by omega, by go_num, Lib.hid (by first | exact BC.out | exact below_drewN BC.out _)⟩
        case measure => simp [intOf]; omega
    · obtain rfl : n = i := by omega
      obtain ⟨c0, y0⟩ := And.intro (H1.out wr hr.out).1.1 (H1.out wr hr.out).2.1
      go_wp2_with fail
      go_ret
      exact ⟨rfl, below_then B1.out hr.out⟩
end Go.Proofs.Ytcffpkflijpdjaa
namespace Go.Proofs.Ytcffpkflijpdjaa
open Go.RowKit
theorem Mz.drew {Z : Nat → Prop} {w0 w : World} (h : Mz Z w0 w) : Mz Z w0 w.drew := ⟨fun A z q => h.spots A z q, ⟨h.kp.os, h.kp.tape, h.kp.output, h.kp.size, h.kp.block⟩⟩
theorem row_u8 {w : World} {B : Nat} {A : Option Addr} {c : Nat} {L : List Int} (h : Row w B A c L) {g : Nat} (hg : SlB A g) : B ≤ g ∧ g < w.heap.size ∧ ∃ cs, w.heap[g]? = some (.cells cs 5 (0, 0)) := by
  obtain ⟨ad, e, rfl⟩ := hg
  have h1 := own_in h ad e
  refine ⟨h1.1, h1.2, ?_⟩
  rcases h.2 with ⟨hn, _⟩ | ⟨g, cap, cur, e', _, h2, _⟩
  · rw [e] at hn; cases hn
  · rw [e] at e'
    injection e' with e'
    injection e' with e'
    subst e'
    exact ⟨_, h2⟩
theorem enB_u8 {w : World} {B : Nat} {T : List En} (hm : EMades w B T) {g : Nat} (hg : EnB T g) : B ≤ g ∧ g < w.heap.size ∧ ∃ cs, w.heap[g]? = some (.cells cs 5 (0, 0)) := by
  obtain ⟨q, hq, h | h⟩ := hg
  · exact row_u8 (hm q hq).1 h
  · exact row_u8 (hm q hq).2 h
theorem own_type {w : World} {B : Nat} {e : TypeId} {size : Nat} {A : Option Addr} {n c m : Nat} {xs : List Value} (h : w.ownsRow B e size (.slice A n c) m xs) : ∀ ad, A = some ad → ∃ cs, w.heap[ad.block]? = some (.cells cs e (0, 0)) := fun ad ha => by
  rcases h.2 with ⟨hn, _⟩ | ⟨g, cap, cur, e', _, h2, _⟩
  · rw [ha] at hn; cases hn
  · rw [ha] at e'
    injection e' with e'
    injection e' with e'
    subst e'
    exact ⟨_, h2⟩
/-- All marked blocks are of bytes, and none of them lies where others must stand. -/
structure Zs (Z : Nat → Prop) (w : World) (lo hi top : Nat) : Prop where
  u8 : ∀ g, Z g → ∃ cs, w.heap[g]? = some (.cells cs 5 (0, 0))
  out : ∀ g, Z g → (lo ≤ g ∧ g < hi) ∨ top ≤ g
/-- A row of other things stands. -/
theorem Zs.row {Z : Nat → Prop} {w0 w : World} {lo hi top : Nat} (hz : Zs Z w0 lo hi top) (hk : Kp (fun b => ¬ Z b) w0 w) {B : Nat} {e : TypeId} {size : Nat} {A : Option Addr} {n c : Nat} {xs : List Value} (h : w0.ownsRow B e size (.slice A n c) n xs) (ht : e ≠ 5) : w.ownsRow B e size (.slice A n c) n xs :=
  own_kp h hk (fun ad ha hZ => by
    obtain ⟨cs, h1⟩ := own_type h ad ha
    obtain ⟨cs', h2⟩ := hz.u8 _ hZ
    rw [h1] at h2
    injection h2 with h2
    injection h2 with _ h2
    exact ht h2)
/-- Bytes between stand. -/
theorem Zs.bytes {Z : Nat → Prop} {w0 w : World} {lo hi top : Nat} (hz : Zs Z w0 lo hi top) (hk : Kp (fun b => ¬ Z b) w0 w) {B c : Nat} {A : Option Addr} {L : List Int} (h : Row w0 B A c L) (hs : ∀ ad, A = some ad → hi ≤ ad.block ∧ ad.block < top) : Row w B A c L :=
  own_kp h hk (fun ad ha hZ => by
    have := hs ad ha
    rcases hz.out _ hZ with h | h <;> omega)
end Go.Proofs.Ytcffpkflijpdjaa
namespace Go.Proofs.Ytcffpkflijpdjaa
open Go.RowKit Go.Sort
/-- A list of numbers of the call's own, that may be written over, of so many. -/
def OwnIds2 (w0 w : World) (A : Option Addr) (m : Nat) (S : List Int) : Prop := S.length = m ∧ m ≤ 140737488351232 ∧ (m = 0 ∨ ∃ g, A = some ⟨g, 0, none⟩ ∧ w0.heap.size ≤ g ∧ g < w.heap.size ∧ Holds (Value.int .i64) w g 0 S.toArray)
/-- What is answered. -/
def PickOut2 (T : List Ta) (fan : Int) (w : World) (e : Ending) (w' : World) : Prop := ∃ (A' : Option Addr) (m c' : Nat) (lev : Int) (ok : Bool) (S : List Int), e = .returned (.tuple #[.slice A' m c', .int .i64 lev, .bool ok]) ∧ OwnIds2 w w' A' m S ∧ Below w.heap.size w w' ∧ (max fan 2 ≤ ((T.filter (atB 0)).length : Int) → ok = true ∧ lev = 1 ∧ S.Perm ((T.filter (atB 0)).map Ta.i ++ ((T.filter (atB 1)).filter (ovB (loP (T.filter (atB 0))) (hiP (T.filter (atB 0))))).map Ta.i))
set_option maxRecDepth 100000 in
set_option maxHeartbeats 8000000 in
theorem pick2_any (A : Option Addr) (T : List Ta) (n c : Nat) (x1 x2 x3 fan : Int) (w : World) (h : TsIn w A T n c) :
    Calls Try.prog 45 #[.agg #[.slice A n c, .int .i64 x1, .int .i64 x2, .int .i64 x3], .int .i64 fan] w (PickOut2 T fan w) := by
  have HH := Lib.hid h
  obtain ⟨w0, hw0⟩ : ∃ w0, w.alloc (.cells #[.slice A n c, .int .i64 x1, .int .i64 x2, .int .i64 x3] 82) = w0 := ⟨_, rfl⟩
  have B0 : Hid (Below w.heap.size w w0) := Lib.hid (hw0 ▸ below_new w _)
  have HC0 : Hid (∀ W, Below w0.heap.size w0 W → W.cell? ⟨w.heap.size, 0, none⟩ = some (.slice A n c)) := Lib.hid (fun W hb => by
    have e := (hb.block w.heap.size (by rw [← hw0]; simp)).trans (hw0 ▸ heap_alloc_new w _)
    simp [World.cell?, e])
  have HTA : Hid (∀ (v : Int) W, Below w.heap.size w W → Calls Try.prog 67 #[.slice A n c, .int .i64 v] W (Chos (atB v) T W)) := Lib.hid (fun v W hb => tablesAt_any A T n c v W HH.out.len (HH.out.lies.kept hb) (by have := HH.out.few; omega))
  clear h
  go_enter Try.func45, Try.ntmps45
  go_upto_region 2 with fail
  try rw [hw0]
  clear hw0
  go_loopw [10] (fun t10 wr => ∃ k : Nat, k ≤ 3 ∧ t10 = .int .i64 k ∧ Hid (0 < k → ((T.filter (atB 0)).length : Int) < max fan 2) ∧ Hid (Below w0.heap.size w0 wr)) (fun t10 _ => 3 - (intOf t10).toNat)
  case atStart => exact ⟨0, by omega, rfl, Lib.hid (fun h => absurd h (by omega)), Lib.hid (Below.refl _ _)⟩
  case round =>
    obtain ⟨k, hk, rfl, hm, b2⟩ := hrel
    have a0 := HC0.out wr b2.out
    by_cases hlt : k < 3
    · have k0 : (k : Int) < 3 := by omega
      have w1 : wrap64 ((k : Int) + 1) = (k : Int) + 1 := by unfold wrap64; omega
      have w2 : IntKind.i64.wrap ((k : Int) + 1) = (k : Int) + 1 := by rw [IntKind.wrap_i64]; omega
      go_upto_region 5 with (go_at_call 67; refine (HTA.out k _ (below_then B0.out b2.out)).mono ?_; rintro e w3 ⟨A3, m3, c3, rfl, h1, h2, h3⟩; have E3 : Hid ((T.filter (atB k)).length = m3 ∧ Trow w3 wr.heap.size A3 c3 (T.filter (atB k)) ∧ Below w0.heap.size w0 w3) := Lib.hid ⟨h1, h2, below_then b2.out h3⟩; clear h1 h2 h3)
      have a0 := HC0.out w3 E3.out.2.2
      obtain ⟨d, hd⟩ : ∃ d, decide ((m3 : Int) < max fan 2) = d := ⟨_, rfl⟩
      cases d
      · have hmx : (max fan 2 : Int) ≤ m3 := by have := of_decide_eq_false hd; omega
        have h2 : 2 ≤ m3 := by omega
        have E3B : Hid (Below w.heap.size w w3) := Lib.hid (below_then B0.out E3.out.2.2)
        by_cases hk0 : k = 0
        · have d0 : decide ((k : Int) > 0) = false := decide_eq_false (by omega)
          have d1 : decide (0 < (k : Int)) = false := decide_eq_false (by omega)
          have dn : decide (0 < k) = false := decide_eq_false (by omega)
          have HK0 := Lib.hid hk0
          obtain ⟨U, hU⟩ : ∃ U, T.filter (atB k) = U := ⟨_, rfl⟩
          have EU : Hid (U.length = m3 ∧ Lies w3 A3 (qvals U) ∧ TIns w3 U ∧ m3 ≤ c3 ∧ (0 < m3 ∧ m3 ≤ n) ∧ Below w0.heap.size w0 w3) := Lib.hid (by
            have h5 := E3.out
            have h6 := (own_cap h5.2.1).1
            rw [h5.1] at h6
            have h7 := len_at (atB k) T
            rw [h5.1, HH.out.len] at h7
            have h8 := h5.2.1.lies
            have h9 : TIns w3 (T.filter (atB k)) := (HH.out.ins.kept E3B.out).sub mem_at
            rw [hU] at h5 h8 h9
            exact ⟨h5.1, h8, h9, h6, ⟨by omega, h7⟩, h5.2.2⟩)
          have HUU := Lib.hid hU
          clear E3 hU hk0 hmx
          go_wp2_with (first
            | (go_at_call 67; refine (HTA.out _ _ (below_then B0.out EU.out.2.2.2.2.2)).mono ?_; rintro e w10 ⟨A9, m9, c9, rfl, h1, h2, h3⟩; have E10 : Hid ((T.filter (atB ((k : Int) + 1))).length = m9 ∧ Trow w10 w3.heap.size A9 c9 (T.filter (atB ((k : Int) + 1))) ∧ Below w3.heap.size w3 w10) := Lib.hid ⟨h1, h2, h3⟩; clear h1 h2 h3)
            | (go_at_call 71; refine (overlapping_any A3 U m3 c3 w10 EU.out.1 (EU.out.2.1.kept E10.out.2.2) (EU.out.2.2.1.kept E10.out.2.2) EU.out.2.2.2.1 (by have := EU.out.2.2.2.2.1; have := HH.out.few; omega) (by have := EU.out.2.2.2.2.1; omega)).mono ?_; rintro e w11 ⟨gh, gl, lo, hi, rfl, e1, e2, e3⟩; have E11 : Hid (Endz w10 w11 gl gh lo hi ∧ lo.l = loP U ∧ hi.l = hiP U) := Lib.hid ⟨e1, e2, e3⟩; clear e1 e2 e3)
            | (go_at_call 70; refine (chosenO_any ⟨gh, 0, none⟩ ⟨gl, 0, none⟩ (ovB (loP U) (hiP U)) A9 (T.filter (atB ((k : Int) + 1))) m9 c9 w11 E10.out.1 ((E10.out.2.1.kept E11.out.1.bel (Nat.le_refl _)).lies) (by have := E10.out.1; have := len_at (atB ((k : Int) + 1)) T; have := HH.out.few; have := HH.out.len; omega) (fun W hb q hq => by
                have h1 := ovC_any q lo hi gh gl W ((TIns.one HH.out.ins (mem_at q hq)).kept (below_then B0.out (below_then EU.out.2.2.2.2.2 (below_then E10.out.2.2 (below_then E11.out.1.bel hb))))) (fun W' hb' => by have := (E11.out.1.kept (below_then hb hb')).cells.1; exact ⟨this.2, this.1⟩) (E11.out.1.lin.kept (below_then E11.out.1.bel hb)) (E11.out.1.hin.kept (below_then E11.out.1.bel hb))
                rwa [E11.out.2.1, E11.out.2.2] at h1)).mono ?_; rintro e w12 ⟨A12, m12, c12, rfl, h1, h2, h3⟩; have E12 : Hid (((T.filter (atB ((k : Int) + 1))).filter (ovB (loP U) (hiP U))).length = m12 ∧ Trow w12 w11.heap.size A12 c12 ((T.filter (atB ((k : Int) + 1))).filter (ovB (loP U) (hiP U))) ∧ Below w3.heap.size w3 w12) := Lib.hid ⟨h1, h2, below_then E10.out.2.2 (below_then E11.out.1.bel h3)⟩; clear h1 h2 h3)
            | (go_at_call 72; refine (rising_two w12 A3 A12 c3 c12 m3 m12 U ((T.filter (atB ((k : Int) + 1))).filter (ovB (loP U) (hiP U))) EU.out.1 E12.out.1 (EU.out.2.1.kept E12.out.2.2) E12.out.2.1.lies (by have h1 := EU.out.2.2.2.2.1; have h2 := E12.out.1; have h3 := len_at (ovB (loP U) (hiP U)) (T.filter (atB ((k : Int) + 1))); have h4 := len_at (atB ((k : Int) + 1)) T; have h5 := HH.out.len; have h6 := HH.out.few; omega) EU.out.2.2.2.2.1.1).mono ?_; rintro e w13 ⟨g13, c13, S, rfl, h1, h2, h3, h4, h5⟩; have E13 : Hid (S.Perm (U.map Ta.i ++ ((T.filter (atB ((k : Int) + 1))).filter (ovB (loP U) (hiP U))).map Ta.i) ∧ S.length = m3 + m12 ∧ w.heap.size ≤ g13 ∧ g13 < w13.heap.size ∧ Holds (Value.int .i64) w13 g13 0 S.toArray ∧ Below w.heap.size w w13) := Lib.hid ⟨h1, by rw [h1.length_eq, List.length_append, List.length_map, List.length_map, EU.out.1, E12.out.1], Nat.le_trans (below_then B0.out (below_then EU.out.2.2.2.2.2 E12.out.2.2)).size h2, h3, h4, below_then B0.out (below_then EU.out.2.2.2.2.2 (below_then E12.out.2.2 h5))⟩; clear h1 h2 h3 h4 h5))
          go_ret3
          exact ⟨some ⟨g13, 0, none⟩, m3 + m12, c13, (k : Int) + 1, true, S, rfl, ⟨E13.out.2.1, by have h1 := EU.out.2.2.2.2.1; have h2 := E12.out.1; have h3 := len_at (ovB (loP U) (hiP U)) (T.filter (atB ((k : Int) + 1))); have h4 := len_at (atB ((k : Int) + 1)) T; have h5 := HH.out.len; have h6 := HH.out.few; omega, .inr ⟨g13, rfl, E13.out.2.2.1, E13.out.2.2.2.1, E13.out.2.2.2.2.1⟩⟩, E13.out.2.2.2.2.2, fun _ => ⟨rfl, by have := HK0.out; omega, by have h1 := E13.out.1; have h2 := HUU.out; have h3 := HK0.out; subst h3; rw [← h2] at h1; exact h1⟩⟩
        · have d0 : decide ((k : Int) > 0) = true := decide_eq_true (by omega)
          have d1 : decide (0 < (k : Int)) = true := decide_eq_true (by omega)
          have dn : decide (0 < k) = true := decide_eq_true (by omega)
          have HKM := Lib.hid (hm.out (by omega))
          have HMF : Hid (Calls Try.prog 68 #[.slice A3 m3 c3, .func (.func 69) #[] #[]] w3 fun e w' => ∃ q ∈ T.filter (atB k), e = .returned q.val ∧ Below w3.heap.size w3 w') := Lib.hid (minFunc_any A3 _ m3 c3 w3 E3.out.1 E3.out.2.1.lies (by have := len_at (atB k) T; have := E3.out.1; have := HH.out.few; have := HH.out.len; omega) (by omega))
          have HNP : Hid (1 ≤ n) := Lib.hid (by have := len_at (atB k) T; have := E3.out.1; have := HH.out.len; omega)
          clear hk0 hmx
          go_upto_region 8 with (go_at_call 68; go_loud (refine HMF.out.mono ?_; rintro e w4 ⟨q, hq, rfl, hb⟩; have E4 : Hid (q ∈ T ∧ Below w3.heap.size w3 w4) := Lib.hid ⟨mem_at q hq, hb⟩; clear hq hb; unfold Ta.val))
          obtain ⟨qn, hqn⟩ : ∃ m, q.lo.l.length = m := ⟨_, rfl⟩
          obtain ⟨qm, hqm⟩ : ∃ m, q.hi.l.length = m := ⟨_, rfl⟩
          have hl := lit_tab w4 q
          rw [hqn, hqm] at hl
          rw [hqn, hqm]
          obtain ⟨w5, hw5⟩ : ∃ w5, w4.alloc (.cells #[.int .i64 q.i, .int .i64 q.v, .int .i64 q.n, .slice q.lo.a qn q.lo.c, .slice q.hi.a qm q.hi.c] 108) = w5 := ⟨_, rfl⟩
          rw [hw5] at hl
          obtain ⟨g5, hg5⟩ : ∃ g5, w4.heap.size = g5 := ⟨_, rfl⟩
          rw [hg5] at hl
          try rw [hw5]
          try rw [hg5]
          have B5 : Hid (Below w0.heap.size w0 w5) := Lib.hid (below_then E3.out.2.2 (hw5 ▸ E4.out.2.alloc E4.out.2.size _))
          obtain ⟨U, hU⟩ : ∃ U, [q] = U := ⟨_, rfl⟩
          have EU : Hid (U.length = 1 ∧ Lies w5 (some ⟨g5, 0, none⟩) (qvals U) ∧ TIns w5 U ∧ 1 ≤ 1 ∧ (0 < 1 ∧ 1 ≤ n) ∧ Below w0.heap.size w0 w5) := Lib.hid (by
            subst hU
            exact ⟨rfl, hl, (HH.out.ins.kept (below_then B0.out B5.out)).one E4.out.1, Nat.le_refl _, ⟨by omega, HNP.out⟩, B5.out⟩)
          clear hU hl hqn hqm hw5 hg5 E3 E4
          have a0 := HC0.out w5 B5.out
          go_wp2_with (first
            | (go_at_call 67; refine (HTA.out _ _ (below_then B0.out EU.out.2.2.2.2.2)).mono ?_; rintro e w10 ⟨A9, m9, c9, rfl, h1, h2, h3⟩; have E10 : Hid ((T.filter (atB ((k : Int) + 1))).length = m9 ∧ Trow w10 w5.heap.size A9 c9 (T.filter (atB ((k : Int) + 1))) ∧ Below w5.heap.size w5 w10) := Lib.hid ⟨h1, h2, h3⟩; clear h1 h2 h3)
            | (go_at_call 71; refine (overlapping_any (some ⟨g5, 0, none⟩) U 1 1 w10 EU.out.1 (EU.out.2.1.kept E10.out.2.2) (EU.out.2.2.1.kept E10.out.2.2) EU.out.2.2.2.1 (by have := EU.out.2.2.2.2.1; have := HH.out.few; omega) (by have := EU.out.2.2.2.2.1; omega)).mono ?_; rintro e w11 ⟨gh, gl, lo, hi, rfl, e1, e2, e3⟩; have E11 : Hid (Endz w10 w11 gl gh lo hi ∧ lo.l = loP U ∧ hi.l = hiP U) := Lib.hid ⟨e1, e2, e3⟩; clear e1 e2 e3)
            | (go_at_call 70; refine (chosenO_any ⟨gh, 0, none⟩ ⟨gl, 0, none⟩ (ovB (loP U) (hiP U)) A9 (T.filter (atB ((k : Int) + 1))) m9 c9 w11 E10.out.1 ((E10.out.2.1.kept E11.out.1.bel (Nat.le_refl _)).lies) (by have := E10.out.1; have := len_at (atB ((k : Int) + 1)) T; have := HH.out.few; have := HH.out.len; omega) (fun W hb q hq => by
                have h1 := ovC_any q lo hi gh gl W ((TIns.one HH.out.ins (mem_at q hq)).kept (below_then B0.out (below_then EU.out.2.2.2.2.2 (below_then E10.out.2.2 (below_then E11.out.1.bel hb))))) (fun W' hb' => by have := (E11.out.1.kept (below_then hb hb')).cells.1; exact ⟨this.2, this.1⟩) (E11.out.1.lin.kept (below_then E11.out.1.bel hb)) (E11.out.1.hin.kept (below_then E11.out.1.bel hb))
                rwa [E11.out.2.1, E11.out.2.2] at h1)).mono ?_; rintro e w12 ⟨A12, m12, c12, rfl, h1, h2, h3⟩; have E12 : Hid (((T.filter (atB ((k : Int) + 1))).filter (ovB (loP U) (hiP U))).length = m12 ∧ Trow w12 w11.heap.size A12 c12 ((T.filter (atB ((k : Int) + 1))).filter (ovB (loP U) (hiP U))) ∧ Below w5.heap.size w5 w12) := Lib.hid ⟨h1, h2, below_then E10.out.2.2 (below_then E11.out.1.bel h3)⟩; clear h1 h2 h3)
            | (go_at_call 72; refine (rising_two w12 (some ⟨g5, 0, none⟩) A12 1 c12 1 m12 U ((T.filter (atB ((k : Int) + 1))).filter (ovB (loP U) (hiP U))) EU.out.1 E12.out.1 (EU.out.2.1.kept E12.out.2.2) E12.out.2.1.lies (by have h1 := EU.out.2.2.2.2.1; have h2 := E12.out.1; have h3 := len_at (ovB (loP U) (hiP U)) (T.filter (atB ((k : Int) + 1))); have h4 := len_at (atB ((k : Int) + 1)) T; have h5 := HH.out.len; have h6 := HH.out.few; omega) EU.out.2.2.2.2.1.1).mono ?_; rintro e w13 ⟨g13, c13, S, rfl, h1, h2, h3, h4, h5⟩; have E13 : Hid (S.Perm (U.map Ta.i ++ ((T.filter (atB ((k : Int) + 1))).filter (ovB (loP U) (hiP U))).map Ta.i) ∧ S.length = 1 + m12 ∧ w.heap.size ≤ g13 ∧ g13 < w13.heap.size ∧ Holds (Value.int .i64) w13 g13 0 S.toArray ∧ Below w.heap.size w w13) := Lib.hid ⟨h1, by rw [h1.length_eq, List.length_append, List.length_map, List.length_map, EU.out.1, E12.out.1], Nat.le_trans (below_then B0.out (below_then EU.out.2.2.2.2.2 E12.out.2.2)).size h2, h3, h4, below_then B0.out (below_then EU.out.2.2.2.2.2 (below_then E12.out.2.2 h5))⟩; clear h1 h2 h3 h4 h5))
          go_ret3
          exact ⟨some ⟨g13, 0, none⟩, 1 + m12, c13, (k : Int) + 1, true, S, rfl, ⟨E13.out.2.1, by have h1 := EU.out.2.2.2.2.1; have h2 := E12.out.1; have h3 := len_at (ovB (loP U) (hiP U)) (T.filter (atB ((k : Int) + 1))); have h4 := len_at (atB ((k : Int) + 1)) T; have h5 := HH.out.len; have h6 := HH.out.few; omega, .inr ⟨g13, rfl, E13.out.2.2.1, E13.out.2.2.2.1, E13.out.2.2.2.2.1⟩⟩, E13.out.2.2.2.2.2, fun h => absurd h (by have := HKM.out; omega)⟩
      · have hd' := of_decide_eq_true hd
        have HD : Hid (k = 0 → ((T.filter (atB 0)).length : Int) < max fan 2) := Lib.hid (fun h0 => by subst h0; have := E3.out.1; rw [← this] at hd'; exact hd')
        go_wp2_with fail
        go_roundw
        case rel => exact ⟨k + 1, by omega, by go_num, Lib.hid (fun _ => by
          by_cases h0 : k = 0
          · exact HD.out h0
          · exact hm.out (by omega)), Lib.hid E3.out.2.2⟩
        case measure => simp [intOf]; omega
    · obtain rfl : k = 3 := by omega
      go_wp2_with fail
      go_ret3
      exact ⟨none, 0, 0, 0, false, [], rfl, ⟨rfl, by omega, .inl rfl⟩, below_then B0.out b2.out, fun h => absurd h (by have := hm.out (by omega); omega)⟩
end Go.Proofs.Ytcffpkflijpdjaa
