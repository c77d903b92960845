/-
  The contracts of the library that this program calls, laid at it by the kit's own program: no walk of mine, one application each. Walks: rising numbers of tables. Walks: which tables are made one. Entries, and lists of them, that come in. What comes in: options, how lists are made one, versions. Walks: the law's first look. The law: a nil table refuses. Walks: versions copied by the document.
-/
import Derived.Shelf.Sort.Plain
import Derived.Test.YtcffpkflijpdjaaProg
import Derived.RangeFuncNested
import Derived.RangeFuncBound
import Derived.RangeFuncCalls
import Derived.RangeFuncLeaves
import Derived.Shelf.Abstract
import Derived.Shelf.RegionOpen
import Derived.OwnWalkIn
import Derived.TacticsInMore
import Derived.LoopNIn
import Derived.LoopIn
import Derived.Test.YtcffpkflijpdjaaCJ05
import Derived.Test.YtcffpkflijpdjaaCJ11
import Derived.Test.YtcffpkflijpdjaaCJ14
set_option linter.unusedSimpArgs false
set_option linter.unusedVariables false
namespace Go.Proofs
open Go.Shelf
def Try.lays189_ren : Go.Shelf.Ren := ⟨fun | 189 => 92 | 125 => 101 | 257 => 100 | 128 => 111 | 129 => 112 | 294 => 102 | 295 => 103 | 296 => 104 | 297 => 105 | 298 => 106 | 299 => 107 | 216 => 108 | 300 => 109 | 301 => 110 | 328 => 113 | 329 => 114 | 330 => 115 | 331 => 116 | 332 => 117 | 215 => 94 | 343 => 118 | n => n, fun | 28 => 37 | 3 => 3 | 46 => 59 | 0 => 0 | 51 => 153 | 53 => 155 | 4 => 4 | 183 => 146 | 182 => 145 | 131 => 150 | 5 => 5 | 9 => 9 | 218 => 156 | 222 => 160 | 228 => 162 | 229 => 163 | n => n, fun | n => n⟩
theorem Try.lays189 : Go.Proofs.Lays.n189 Try.prog Try.lays189_ren := {
  mixed := by kernel_rfl
  f125 := Try.func101.trans (congrArg some (by kernel_rfl))
  f128 := Try.func111.trans (congrArg some (by kernel_rfl))
  f129 := Try.func112.trans (congrArg some (by kernel_rfl))
  f189 := Try.func92.trans (congrArg some (by kernel_rfl))
  f215 := Try.func94.trans (congrArg some (by kernel_rfl))
  f216 := Try.func108.trans (congrArg some (by kernel_rfl))
  f257 := Try.func100.trans (congrArg some (by kernel_rfl))
  f294 := Try.func102.trans (congrArg some (by kernel_rfl))
  f295 := Try.func103.trans (congrArg some (by kernel_rfl))
  f296 := Try.func104.trans (congrArg some (by kernel_rfl))
  f297 := Try.func105.trans (congrArg some (by kernel_rfl))
  f298 := Try.func106.trans (congrArg some (by kernel_rfl))
  f299 := Try.func107.trans (congrArg some (by kernel_rfl))
  f300 := Try.func109.trans (congrArg some (by kernel_rfl))
  f301 := Try.func110.trans (congrArg some (by kernel_rfl))
  f328 := Try.func113.trans (congrArg some (by kernel_rfl))
  f329 := Try.func114.trans (congrArg some (by kernel_rfl))
  f330 := Try.func115.trans (congrArg some (by kernel_rfl))
  f331 := Try.func116.trans (congrArg some (by kernel_rfl))
  f332 := Try.func117.trans (congrArg some (by kernel_rfl))
  f343 := Try.func118.trans (congrArg some (by kernel_rfl))
  t0 := Try.underlying0
  a0 := Try.isAgg0
  z0 := Try.sizeOf0
  v0 := Try.zeroValue0
  t3 := Try.underlying3
  a3 := Try.isAgg3
  z3 := Try.sizeOf3
  v3 := Try.zeroValue3
  t4 := Try.underlying4
  a4 := Try.isAgg4
  z4 := Try.sizeOf4
  v4 := Try.zeroValue4
  t5 := Try.underlying5
  a5 := Try.isAgg5
  z5 := Try.sizeOf5
  v5 := Try.zeroValue5
  t9 := Try.underlying9
  a9 := Try.isAgg9
  z9 := Try.sizeOf9
  v9 := Try.zeroValue9
  t28 := Try.underlying37
  a28 := Try.isAgg37
  z28 := Try.sizeOf37
  v28 := Try.zeroValue37
  t46 := Try.underlying59
  a46 := Try.isAgg59
  z46 := Try.sizeOf59
  v46 := Try.zeroValue59
  t51 := Try.underlying153
  a51 := Try.isAgg153
  z51 := Try.sizeOf153
  v51 := Try.zeroValue153
  t53 := Try.underlying155
  a53 := Try.isAgg155
  z53 := Try.sizeOf155
  v53 := Try.zeroValue155
  t131 := Try.underlying150
  a131 := Try.isAgg150
  z131 := Try.sizeOf150
  v131 := Try.zeroValue150
  t182 := Try.underlying145
  a182 := Try.isAgg145
  z182 := Try.sizeOf145
  v182 := Try.zeroValue145
  t183 := Try.underlying146
  a183 := Try.isAgg146
  z183 := Try.sizeOf146
  v183 := Try.zeroValue146
  t218 := Try.underlying156
  a218 := Try.isAgg156
  z218 := Try.sizeOf156
  v218 := Try.zeroValue156
  t222 := Try.underlying160
  a222 := Try.isAgg160
  z222 := Try.sizeOf160
  v222 := Try.zeroValue160
  t228 := Try.underlying162
  a228 := Try.isAgg162
  z228 := Try.sizeOf162
  v228 := Try.zeroValue162
  t229 := Try.underlying163
  a229 := Try.isAgg163
  z229 := Try.sizeOf163
  v229 := Try.zeroValue163 }
open Go.Sort Go.RowKit in
theorem Try.slices_Sort_int (blk off cap : Nat) (zs : List Int) (w : World) (hH : Holds (Value.int .i64) w blk off zs.toArray) (hblk : blk < w.heap.size) (hsz : zs.length < 4611686018427387904) :
    Calls Try.prog 92 #[.slice (some ⟨blk, off, none⟩) zs.length cap] w fun e w' =>
      e = .returned (.tuple #[]) ∧ ∃ n os, w' = grow (putRow (Value.int .i64) (Sort.ahead w n) blk off (zs.mergeSort fun x y => decide (x ≤ y)).toArray) os := Any.slices_Sort_int Try.lays189 blk off cap zs w hH hblk hsz
end Go.Proofs
namespace Go.Proofs.Ytcffpkflijpdjaa
open Go.RowKit Go.Sort
/-- A slice of tables, as a value. -/
structure Gt where
  a : Option Addr
  c : Nat
  l : List Ta
def Gt.val (s : Gt) : Value := .slice s.a s.l.length s.c
def gtvals (T : List Gt) : List Value := T.map Gt.val
def idsOf (T : List Gt) : List Int := T.flatMap (fun g => g.l.map Ta.i)
theorem idsOf_snoc {T : List Gt} {k : Nat} {g : Gt} (h : T[k]? = some g) : idsOf (T.take (k + 1)) = idsOf (T.take k) ++ g.l.map Ta.i := by
  unfold idsOf
  rw [List.take_add_one, h]
  simp
theorem idsOf_sub (T : List Gt) (k : Nat) : (idsOf (T.take k)).length ≤ (idsOf T).length := by
  have e : idsOf T = idsOf (T.take k) ++ idsOf (T.drop k) := by
    unfold idsOf
    rw [← List.flatMap_append, List.take_append_drop]
  rw [e, List.length_append]
  omega
theorem take_gt {w : World} {A : Option Addr} {Ls : List Gt} {k : Nat} {g : Gt} (h : Lies w A (gtvals Ls)) (hg : Ls[k]? = some g) : ∃ ad, A = some ad ∧ w.cell? (ad.add k) = some g.val := by
  have hv : (gtvals Ls)[k]? = some g.val := by simp [gtvals, hg]
  rcases h with h | ⟨ad, e, h⟩
  · rw [h] at hv; cases hv
  · exact ⟨ad, e, h k _ hv⟩
theorem wpList_append_irowG (w : World) {ops : Array Oper} {rest : List Oper} {o : Oper} {a : Act} {Q : Exit → Act → World → Prop} (hgd : o.guard = none) (s x : Operand)
    (ho : o.op = .call { callee := .builtin .append, args := #[s, x], argTypes := #[37, 37] })
    (B : Nat) (A : Option Addr) (c : Nat) (T U : List Int) (C : Option Addr) (n m cm : Nat) (hs : a.eval s = .slice A n c) (hx : a.eval x = .slice C m cm) (en : T.length = n) (em : U.length = m) (h : Irow w B A c T) (hm : Lies w C (ivals U)) (hB : B ≤ w.heap.size) (hr : (T.length + U.length) * 8 ≤ 140737488355328)
    (k : ∀ A' c' w', Irow w' B A' c' (T ++ U) → Below B w w' → wpList Try.prog ops Q rest (a.put o.dst (.slice A' (n + m) c')) w') : wpList Try.prog ops Q (o :: rest) a w := by
  subst en
  subst em
  obtain ⟨i, hi, hz0, hz1, hz2⟩ := info_parts info3
  refine wpList_plain hgd fun K hK => ?_
  obtain ⟨A', c', w', r, h2, h3, h4⟩ := run_append_grown (P := Try.prog) w 37 o.type 3 i (.int .i64 0) 1 8 Try.underlying37 hi hz0 hz1 hz2 rfl (by decide) B A T.length c (ivals T) h C U.length cm (ivals U) (by simp [ivals_len]) hm ivals_one (by unfold maxLen; omega) hr hB
  have e : ivals T ++ ivals U = ivals (T ++ U) := by simp [ivals]
  rw [e] at h2
  have k' := k A' c' w' (by unfold Irow; rw [List.length_append]; exact h2) h3
  unfold Oper.wp execOp
  simp only [ho, resolve, invoke, builtin, Sem.run_bind, Sem.run_pure, Result.andThen_ok, List.map_toArray, List.map_cons, List.map_nil, hs, hx, r]
  exact hK _ _ k'
theorem lit_int (w : World) (x : Int) : Lies (w.alloc (.cells #[.int .i64 x] 3)) (some ⟨w.heap.size, 0, none⟩) (ivals [x]) := lit_lies w _ _ rfl _
theorem Irow.holds {w : World} {B : Nat} {A : Option Addr} {c : Nat} {L : List Int} (h : Irow w B A c L) (hn : L ≠ []) : ∃ g, A = some ⟨g, 0, none⟩ ∧ B ≤ g ∧ g < w.heap.size ∧ Holds (Value.int .i64) w g 0 L.toArray := by
  have hl := h.lies
  rcases h.2 with ⟨_, e⟩ | ⟨g, cap, cur, e, hb, hg, hn', _⟩
  · exact absurd (List.length_eq_zero_iff.1 e) hn
  · injection e with e1 e2 e3
    subst e1
    refine ⟨g, rfl, hb, (Array.getElem?_eq_some_iff.1 hg).1, fun j hj => ?_⟩
    have hj' : j < L.length := by simpa using hj
    have h1 := World.ownsRow.cells h (g := g) rfl j (.int .i64 L[j]) (by simp [ivals, hj'])
    rw [add_head] at h1
    rw [Nat.zero_add]
    refine ⟨?_, by simp [World.frozen?, hg]⟩
    rw [h1]
    simp [hj']
theorem putRow_below {α : Type} [Inhabited α] {B : Nat} (enc : α → Value) (w : World) (blk off : Nat) (d : Array α) (h : B ≤ blk) : Go.RowKit.Below B w (putRow enc w blk off d) := by
  refine ⟨rfl, rfl, rfl, by simp [putRow, mapBlock], fun k hk => ?_⟩
  show ((w.heap.modify blk _)[k]?) = _
  rw [Array.getElem?_modify, if_neg (by omega)]
theorem ahead_below (B : Nat) (w : World) (n : Nat) : Go.RowKit.Below B w (Sort.ahead w n) := ⟨rfl, rfl, rfl, Nat.le_refl _, fun _ _ => rfl⟩
theorem grow_below {B : Nat} (w : World) (os : Array Obj) (h : B ≤ w.heap.size) : Go.RowKit.Below B w (grow w os) :=
  ⟨rfl, rfl, rfl, by simp [grow], fun k hk => heap_grow_old w os (by omega)⟩
theorem putRow_size {α : Type} [Inhabited α] (enc : α → Value) (w : World) (blk off : Nat) (d : Array α) : (putRow enc w blk off d).heap.size = w.heap.size := by simp [putRow, mapBlock]
theorem sortI_any (g c B : Nat) (L : List Int) (n : Nat) (w : World) (hn : L.length = n) (hB : B ≤ g) (hlt : g < w.heap.size) (hH : Holds (Value.int .i64) w g 0 L.toArray) (h9 : n < 4611686018427387904) :
    Calls Try.prog 92 #[.slice (some ⟨g, 0, none⟩) n c] w fun e w' => e = .returned (.tuple #[]) ∧ ∃ S : List Int, S.Perm L ∧ Holds (Value.int .i64) w' g 0 S.toArray ∧ g < w'.heap.size ∧ Go.RowKit.Below B w w' := by
  subst hn
  refine (Try.slices_Sort_int g 0 c L w hH hlt h9).mono ?_
  rintro e w' ⟨rfl, n, os, rfl⟩
  have hs : (putRow (Value.int .i64) (Sort.ahead w n) g 0 (L.mergeSort fun x y => decide (x ≤ y)).toArray).heap.size = w.heap.size := putRow_size _ _ _ _ _
  refine ⟨rfl, L.mergeSort fun x y => decide (x ≤ y), List.mergeSort_perm _ _, ?_, ?_, ?_⟩
  · exact holds_grow _ _ _ _ _ _ (by rw [hs]; exact hlt) (holds_putRow _ _ _ _ L.toArray _ (holds_ahead _ _ _ _ _ _ hH) (by simp))
  · rw [size_grow, hs]; omega
  · exact ((ahead_below B w n).trans (putRow_below _ _ g _ _ hB)).trans (grow_below _ _ (by rw [hs]; omega))
/-- Numbers, of the call's own. -/
def RisOut (L : List Int) (w : World) (e : Ending) (w' : World) : Prop := ∃ (g c' : Nat) (S : List Int), e = .returned (.slice (some ⟨g, 0, none⟩) L.length c') ∧ S.Perm L ∧ w.heap.size ≤ g ∧ g < w'.heap.size ∧ Holds (Value.int .i64) w' g 0 S.toArray ∧ Below w.heap.size w w'
set_option maxRecDepth 100000 in
set_option maxHeartbeats 8000000 in
theorem risingIDs_any (A : Option Addr) (Ls : List Gt) (n c : Nat) (w : World) (hn : Ls.length = n) (h : Lies w A (gtvals Ls)) (he : ∀ g ∈ Ls, Lies w g.a (qvals g.l)) (hn9 : n * 24 ≤ 140737488351232) (ht : (idsOf Ls).length * 72 ≤ 140737488351232) (h0 : idsOf Ls ≠ []) :
    Calls Try.prog 72 #[.slice A n c] w (RisOut (idsOf Ls) w) := by
  have HP := Lib.hid (fun (w' : World) (hb : Below w.heap.size w w') => h.kept hb)
  have HE := Lib.hid (fun (w' : World) (hb : Below w.heap.size w w') g hg => (he g hg).kept hb)
  have HN := Lib.hid hn
  have HT := Lib.hid ht
  have H0 := Lib.hid h0
  clear h hn he ht h0
  go_enter Try.func72, Try.ntmps72
  go_wp2_with fail
  go_loopw [3, 10] (fun t3 t10 wr => ∃ (k j : Nat) (A2 : Option Addr) (c2 : Nat) (L : List Int), k ≤ n ∧ t10 = .int .i64 k ∧ t3 = .slice A2 j c2 ∧ Hid (L.length = j ∧ L = idsOf (Ls.take k)) ∧ Hid (Irow wr w.heap.size A2 c2 L) ∧ Hid (Below w.heap.size w wr)) (fun _ t10 _ => n - (intOf t10).toNat)
  case atStart => exact ⟨0, 0, none, 0, [], by omega, rfl, rfl, Lib.hid ⟨rfl, rfl⟩, Lib.hid (Irow.nil _ _), Lib.hid (Below.refl _ _)⟩
  case round =>
    obtain ⟨k, j, A2, c2, L, hk, rfl, rfl, hj, r2, b2⟩ := hrel
    by_cases hlt : k < n
    · have hq := List.getElem?_eq_getElem (l := Ls) (i := k) (by have := HN.out; omega)
      generalize Ls[k]'(by have := HN.out; omega) = x at hq
      obtain ⟨ad, rfl, a0⟩ := take_gt (HP.out _ b2.out) hq
      have HSN := Lib.hid (idsOf_snoc hq)
      have HXE := Lib.hid (fun (w' : World) (hb : Below w.heap.size w w') => HE.out w' hb x (List.mem_of_getElem? hq))
      obtain ⟨xn, hxn⟩ : ∃ m, x.l.length = m := ⟨_, rfl⟩
      have HXN := Lib.hid hxn
      have HX9 : Hid (L.length + xn ≤ (idsOf Ls).length) := Lib.hid (by
        have := idsOf_sub Ls (k + 1)
        rw [HSN.out, List.length_append, List.length_map, hxn, ← hj.out.2] at this
        exact this)
      have hx9 : xn * 72 ≤ 140737488351232 := by have := HX9.out; have := HT.out; omega
      have k0 : (k : Int) < n := by omega
      unfold Gt.val at a0
      rw [hxn] at a0
      have HL0 := Lib.hid hj.out.2
      have R0 : Hid (L.length = j ∧ Irow wr w.heap.size A2 c2 L ∧ Below w.heap.size w wr) := Lib.hid ⟨hj.out.1, r2.out, b2.out⟩
      clear hq hxn hj r2 b2
      go_wp2_with fail
      go_loopw [3, 16] (fun t3 t16 wi => ∃ (i p : Nat) (A3 : Option Addr) (c3 : Nat), i ≤ xn ∧ t16 = .int .i64 i ∧ t3 = .slice A3 p c3 ∧ Hid ((L ++ (x.l.take i).map Ta.i).length = p ∧ Irow wi w.heap.size A3 c3 (L ++ (x.l.take i).map Ta.i) ∧ Below w.heap.size w wi)) (fun _ t16 _ => xn - (intOf t16).toNat)
      case atStart => exact ⟨0, j, A2, c2, by omega, rfl, rfl, Lib.hid (by simpa using R0.out)⟩
      case round =>
        obtain ⟨i, p, A3, c3, hi, rfl, rfl, hr⟩ := hrel
        by_cases hlt2 : i < xn
        · have hq := List.getElem?_eq_getElem (l := x.l) (i := i) (by have := HXN.out; omega)
          generalize x.l[i]'(by have := HXN.out; omega) = y at hq
          obtain ⟨bd, hbd, c0, c1, c2', c3', c4⟩ := lies_table (HXE.out _ hr.out.2.2) hq
          rw [hbd] at *
          obtain ⟨yn, hyn⟩ : ∃ m, y.lo.l.length = m := ⟨_, rfl⟩
          obtain ⟨ym, hym⟩ : ∃ m, y.hi.l.length = m := ⟨_, rfl⟩
          rw [hyn] at c3'
          rw [hym] at c4
          have i0 : (i : Int) < xn := by omega
          have HTK : Hid ((x.l.take (i + 1)).map Ta.i = (x.l.take i).map Ta.i ++ [y.i]) := Lib.hid (by rw [List.take_add_one, hq]; simp)
          have HPL : Hid (p ≤ L.length + i) := Lib.hid (by have := hr.out.1; rw [List.length_append, List.length_map, List.length_take] at this; omega)
          clear hq hyn hym hbd
          go_upto_region 8 with fail
          obtain ⟨wx, hwx⟩ : ∃ wx, wr.alloc (.cells #[.int .i64 y.i, .int .i64 y.v, .int .i64 y.n, .slice y.lo.a yn y.lo.c, .slice y.hi.a ym y.hi.c] 108) = wx := ⟨_, rfl⟩
          have HX : Hid (Irow wx w.heap.size A3 c3 (L ++ (x.l.take i).map Ta.i) ∧ Below w.heap.size w wx) := Lib.hid ⟨hwx ▸ own_kept hr.out.2.1 (below_new wr _) (Nat.le_refl _), hwx ▸ hr.out.2.2.alloc hr.out.2.2.size _⟩
          obtain ⟨e0, e1, e2, e3, e4⟩ := box_five (W := wx) (g := wr.heap.size) (v0 := .int .i64 y.i) (v1 := .int .i64 y.v) (v2 := .int .i64 y.n) (v3 := .slice y.lo.a yn y.lo.c) (v4 := .slice y.hi.a ym y.hi.c) (t := 108) (fr := (0, 0)) (by rw [← hwx]; exact heap_alloc_new wr _)
          try rw [hwx]
          clear hwx c0 c1 c2' c3' c4
          go_wp2_with (at_builtin; refine wpList_append_irowG _ (by rfl) (.tmp 20) (.tmp 23) (by rfl) w.heap.size A3 c3 (L ++ (x.l.take i).map Ta.i) [y.i] _ p 1 1 (by first | rfl | (simp [Act.eval]; done)) (by first | rfl | (simp [Act.eval]; done)) hr.out.1 rfl (own_kept HX.out.1 (below_new wx _) (Nat.le_refl _)) (lit_int _ y.i) (by have := HX.out.2.size; simp; omega) (by have := hr.out.1; have := HPL.out; have := HX9.out; have := HT.out; simp only [List.length_singleton]; omega) ?_; intro A8 c8 w8 r8 b8; have H8 : Hid (Irow w8 w.heap.size A8 c8 (L ++ (x.l.take i).map Ta.i ++ [y.i]) ∧ Below w.heap.size w w8) := Lib.hid ⟨r8, (HX.out.2.alloc HX.out.2.size _).trans b8⟩; clear r8 b8)
          go_roundw
          case rel => exact ⟨i + 1, p + 1, A8, c8, by omega, by go_num, rfl, Lib.hid ⟨by rw [HTK.out, ← List.append_assoc, List.length_append, hr.out.1]; rfl, by rw [HTK.out, ← List.append_assoc]; exact H8.out.1, H8.out.2⟩⟩
          case measure => simp [intOf]; omega
        · obtain rfl : i = xn := by omega
          have HFF : Hid (L ++ (x.l.take i).map Ta.i = idsOf (Ls.take (k + 1))) := Lib.hid (by rw [HSN.out, ← HL0.out, List.take_of_length_le (by have := HXN.out; omega)])
          go_wp2_with fail
          go_roundw
          case rel => exact ⟨k + 1, p, A3, c3, _, by omega, by go_num, rfl, Lib.hid ⟨hr.out.1, HFF.out⟩, Lib.hid hr.out.2.1, Lib.hid hr.out.2.2⟩
          case measure => simp [intOf]; omega
    · obtain rfl : k = n := by omega
      have e : Ls.take k = Ls := List.take_of_length_le (by have := HN.out; omega)
      rw [e] at hj
      obtain ⟨g, rfl, g1, g2, g3⟩ := r2.out.holds (by rw [hj.out.2]; exact H0.out)
      have HS : Hid (∀ q, Calls Try.prog 92 #[.slice (some ⟨g, 0, none⟩) j c2] (wr.drewN q) fun e w' => e = .returned (.tuple #[]) ∧ ∃ S : List Int, S.Perm L ∧ Holds (Value.int .i64) w' g 0 S.toArray ∧ g < w'.heap.size ∧ Go.RowKit.Below w.heap.size (wr.drewN q) w') := Lib.hid (fun q => sortI_any g c2 w.heap.size L j (wr.drewN q) hj.out.1 g1 g2 g3 (by have h1 := hj.out.1; have h2 := congrArg List.length hj.out.2; have := HT.out; omega))
      have G1 := Lib.hid g1
      clear g1 g2 g3
      go_wp2_with (go_at_call 92; refine (HS.out 0).mono ?_; rintro e w5 ⟨rfl, S, s1, s2, s3, s4⟩; have H5 := Lib.hid (And.intro s1 (And.intro s2 (And.intro s3 s4))); clear s1 s2 s3 s4)
      go_ret
      exact ⟨g, c2, S, by rw [← hj.out.2, hj.out.1]; rfl, hj.out.2 ▸ H5.out.1, G1.out, H5.out.2.2.1, H5.out.2.1, b2.out.trans H5.out.2.2.2⟩
end Go.Proofs.Ytcffpkflijpdjaa
namespace Go.Proofs.Ytcffpkflijpdjaa
open Go.RowKit Go.Sort
/-- Tables that may be read. -/
structure TsIn (w : World) (A : Option Addr) (T : List Ta) (n c : Nat) : Prop where
  len : T.length = n
  lies : Lies w A (qvals T)
  ins : TIns w T
  cap : n ≤ c
  few : n * 144 ≤ 140737488351232
theorem TsIn.kept {w w' : World} {A : Option Addr} {T : List Ta} {n c : Nat} (h : TsIn w A T n c) (hb : Below w.heap.size w w') : TsIn w' A T n c := ⟨h.len, h.lies.kept hb, h.ins.kept hb, h.cap, h.few⟩
theorem TIns.sub {w : World} {l m : List Ta} (h : TIns w l) (hs : ∀ q ∈ m, q ∈ l) : TIns w m := fun q hq => h q (hs q hq)
theorem TIns.one {w : World} {l : List Ta} {q : Ta} (h : TIns w l) (hq : q ∈ l) : TIns w [q] := fun x hx => by rw [List.mem_singleton.1 hx]; exact h q hq
theorem mem_at {v : Int} {T : List Ta} : ∀ q ∈ T.filter (atB v), q ∈ T := fun _ hq => (List.mem_filter.1 hq).1
theorem len_at (p : Ta → Bool) (T : List Ta) : (T.filter p).length ≤ T.length := List.length_filter_le p T
/-- A list of numbers of the call's own, that may be written over. -/
def OwnIds (w0 w : World) (A : Option Addr) (m : Nat) (S : List Int) : Prop := S.length = m ∧ (m = 0 ∨ ∃ g, A = some ⟨g, 0, none⟩ ∧ w0.heap.size ≤ g ∧ g < w.heap.size ∧ Holds (Value.int .i64) w g 0 S.toArray)
/-- What is answered; where level 0 has so many, exactly. -/
def PickOut (T : List Ta) (fan : Int) (w : World) (e : Ending) (w' : World) : Prop := ∃ (A' : Option Addr) (m c' : Nat) (lev : Int) (ok : Bool) (S : List Int), e = .returned (.tuple #[.slice A' m c', .int .i64 lev, .bool ok]) ∧ OwnIds w w' A' m S ∧ Below w.heap.size w w' ∧ (max fan 2 ≤ ((T.filter (atB 0)).length : Int) → ok = true ∧ lev = 1 ∧ S.Perm ((T.filter (atB 0)).map Ta.i ++ ((T.filter (atB 1)).filter (ovB (loP (T.filter (atB 0))) (hiP (T.filter (atB 0))))).map Ta.i))
theorem gt_two (w : World) (A8 A9 : Option Addr) (c8 c9 m8 m9 : Nat) (U V : List Ta) (h8 : U.length = m8) (h9 : V.length = m9) : Lies (w.alloc (.cells #[.slice A8 m8 c8, .slice A9 m9 c9] 80)) (some ⟨w.heap.size, 0, none⟩) (gtvals [⟨A8, c8, U⟩, ⟨A9, c9, V⟩]) := by
  subst h8 h9
  exact lit_lies w _ _ rfl _
theorem ids_two (A8 A9 : Option Addr) (c8 c9 : Nat) (U V : List Ta) : idsOf [⟨A8, c8, U⟩, ⟨A9, c9, V⟩] = U.map Ta.i ++ V.map Ta.i := by simp [idsOf]
theorem rising_two (w : World) (A8 A9 : Option Addr) (c8 c9 m8 m9 : Nat) (U V : List Ta) (h8 : U.length = m8) (h9 : V.length = m9) (hu : Lies w A8 (qvals U)) (hv : Lies w A9 (qvals V)) (ht : (m8 + m9) * 72 ≤ 140737488351232) (h0 : 0 < m8) :
    Calls Try.prog 72 #[.slice (some ⟨w.heap.size, 0, none⟩) 2 2] (w.alloc (.cells #[.slice A8 m8 c8, .slice A9 m9 c9] 80)) fun e w' => ∃ (g c' : Nat) (S : List Int), e = .returned (.slice (some ⟨g, 0, none⟩) (m8 + m9) c') ∧ S.Perm (U.map Ta.i ++ V.map Ta.i) ∧ w.heap.size ≤ g ∧ g < w'.heap.size ∧ Holds (Value.int .i64) w' g 0 S.toArray ∧ Below w.heap.size w w' := by
  have el : (idsOf [⟨A8, c8, U⟩, ⟨A9, c9, V⟩]).length = m8 + m9 := by rw [ids_two, List.length_append, List.length_map, List.length_map, h8, h9]
  have hb := below_new w (.cells #[.slice A8 m8 c8, .slice A9 m9 c9] 80)
  refine (risingIDs_any _ [⟨A8, c8, U⟩, ⟨A9, c9, V⟩] 2 2 _ rfl (gt_two w A8 A9 c8 c9 m8 m9 U V h8 h9) (fun g hg => ?_) (by decide) (by rw [el]; exact ht) (fun e => ?_)).mono ?_
  · rcases List.mem_cons.1 hg with e | e
    · subst e
      exact hu.kept hb
    · rw [List.mem_singleton.1 e]
      exact hv.kept hb
  · rw [e] at el
    simp at el
    omega
  · rintro e w' ⟨g, c', S, rfl, h1, h2, h3, h4, h5⟩
    rw [el]
    rw [ids_two] at h1
    exact ⟨g, c', S, rfl, h1, Nat.le_trans hb.size h2, h3, h4, below_then hb h5⟩
theorem lit_tab (w : World) (q : Ta) : Lies (w.alloc (.cells #[.int .i64 q.i, .int .i64 q.v, .int .i64 q.n, .slice q.lo.a q.lo.l.length q.lo.c, .slice q.hi.a q.hi.l.length q.hi.c] 108)) (some ⟨w.heap.size, 0, none⟩) (qvals [q]) := lit_lies w _ _ rfl _
set_option maxRecDepth 100000 in
set_option maxHeartbeats 8000000 in
theorem pick_any (A : Option Addr) (T : List Ta) (n c : Nat) (x1 x2 x3 fan : Int) (w : World) (h : TsIn w A T n c) :
    Calls Try.prog 45 #[.agg #[.slice A n c, .int .i64 x1, .int .i64 x2, .int .i64 x3], .int .i64 fan] w (PickOut T fan w) := by
  have HH := Lib.hid h
  obtain ⟨w0, hw0⟩ : ∃ w0, w.alloc (.cells #[.slice A n c, .int .i64 x1, .int .i64 x2, .int .i64 x3] 82) = w0 := ⟨_, rfl⟩
  have B0 : Hid (Below w.heap.size w w0) := Lib.hid (hw0 ▸ below_new w _)
  have HC0 : Hid (∀ W, Below w0.heap.size w0 W → W.cell? ⟨w.heap.size, 0, none⟩ = some (.slice A n c)) := Lib.hid (fun W hb => by
    have e := (hb.block w.heap.size (by rw [← hw0]; simp)).trans (hw0 ▸ heap_alloc_new w _)
    simp [World.cell?, e])
  have HTA : Hid (∀ (v : Int) W, Below w.heap.size w W → Calls Try.prog 67 #[.slice A n c, .int .i64 v] W (Chos (atB v) T W)) := Lib.hid (fun v W hb => tablesAt_any A T n c v W HH.out.len (HH.out.lies.kept hb) (by have := HH.out.few; omega))
  clear h
  go_enter Try.func45, Try.ntmps45
  go_upto_region 2 with fail
  try rw [hw0]
  clear hw0
  go_loopw [10] (fun t10 wr => ∃ k : Nat, k ≤ 3 ∧ t10 = .int .i64 k ∧ Hid (0 < k → ((T.filter (atB 0)).length : Int) < max fan 2) ∧ Hid (Below w0.heap.size w0 wr)) (fun t10 _ => 3 - (intOf t10).toNat)
  case atStart => exact ⟨0, by omega, rfl, Lib.hid (fun h => absurd h (by omega)), Lib.hid (Below.refl _ _)⟩
  case round =>
    obtain ⟨k, hk, rfl, hm, b2⟩ := hrel
    have a0 := HC0.out wr b2.out
    by_cases hlt : k < 3
    · have k0 : (k : Int) < 3 := by omega
      have w1 : wrap64 ((k : Int) + 1) = (k : Int) + 1 := by unfold wrap64; omega
      have w2 : IntKind.i64.wrap ((k : Int) + 1) = (k : Int) + 1 := by rw [IntKind.wrap_i64]; omega
      go_upto_region 5 with (go_at_call 67; refine (HTA.out k _ (below_then B0.out b2.out)).mono ?_; rintro e w3 ⟨A3, m3, c3, rfl, h1, h2, h3⟩; have E3 : Hid ((T.filter (atB k)).length = m3 ∧ Trow w3 wr.heap.size A3 c3 (T.filter (atB k)) ∧ Below w0.heap.size w0 w3) := Lib.hid ⟨h1, h2, below_then b2.out h3⟩; clear h1 h2 h3)
      have a0 := HC0.out w3 E3.out.2.2
      obtain ⟨d, hd⟩ : ∃ d, decide ((m3 : Int) < max fan 2) = d := ⟨_, rfl⟩
      cases d
      · have hmx : (max fan 2 : Int) ≤ m3 := by have := of_decide_eq_false hd; omega
        have h2 : 2 ≤ m3 := by omega
        have E3B : Hid (Below w.heap.size w w3) := Lib.hid (below_then B0.out E3.out.2.2)
        by_cases hk0 : k = 0
        · have d0 : decide ((k : Int) > 0) = false := decide_eq_false (by omega)
          have d1 : decide (0 < (k : Int)) = false := decide_eq_false (by omega)
          have dn : decide (0 < k) = false := decide_eq_false (by omega)
          have HK0 := Lib.hid hk0
          obtain ⟨U, hU⟩ : ∃ U, T.filter (atB k) = U := ⟨_, rfl⟩
          have EU : Hid (U.length = m3 ∧ Lies w3 A3 (qvals U) ∧ TIns w3 U ∧ m3 ≤ c3 ∧ (0 < m3 ∧ m3 ≤ n) ∧ Below w0.heap.size w0 w3) := Lib.hid (by
            have h5 := E3.out
            have h6 := (own_cap h5.2.1).1
            rw [h5.1] at h6
            have h7 := len_at (atB k) T
            rw [h5.1, HH.out.len] at h7
            have h8 := h5.2.1.lies
            have h9 : TIns w3 (T.filter (atB k)) := (HH.out.ins.kept E3B.out).sub mem_at
            rw [hU] at h5 h8 h9
            exact ⟨h5.1, h8, h9, h6, ⟨by omega, h7⟩, h5.2.2⟩)
          have HUU := Lib.hid hU
          clear E3 hU hk0 hmx
          go_wp2_with (first
            | (go_at_call 67; refine (HTA.out _ _ (below_then B0.out EU.out.2.2.2.2.2)).mono ?_; rintro e w10 ⟨A9, m9, c9, rfl, h1, h2, h3⟩; have E10 : Hid ((T.filter (atB ((k : Int) + 1))).length = m9 ∧ Trow w10 w3.heap.size A9 c9 (T.filter (atB ((k : Int) + 1))) ∧ Below w3.heap.size w3 w10) := Lib.hid ⟨h1, h2, h3⟩; clear h1 h2 h3)
            | (go_at_call 71; refine (overlapping_any A3 U m3 c3 w10 EU.out.1 (EU.out.2.1.kept E10.out.2.2) (EU.out.2.2.1.kept E10.out.2.2) EU.out.2.2.2.1 (by have := EU.out.2.2.2.2.1; have := HH.out.few; omega) (by have := EU.out.2.2.2.2.1; omega)).mono ?_; rintro e w11 ⟨gh, gl, lo, hi, rfl, e1, e2, e3⟩; have E11 : Hid (Endz w10 w11 gl gh lo hi ∧ lo.l = loP U ∧ hi.l = hiP U) := Lib.hid ⟨e1, e2, e3⟩; clear e1 e2 e3)
            | (go_at_call 70; refine (chosenO_any ⟨gh, 0, none⟩ ⟨gl, 0, none⟩ (ovB (loP U) (hiP U)) A9 (T.filter (atB ((k : Int) + 1))) m9 c9 w11 E10.out.1 ((E10.out.2.1.kept E11.out.1.bel (Nat.le_refl _)).lies) (by have := E10.out.1; have := len_at (atB ((k : Int) + 1)) T; have := HH.out.few; have := HH.out.len; omega) (fun W hb q hq => by
                have h1 := ovC_any q lo hi gh gl W ((TIns.one HH.out.ins (mem_at q hq)).kept (below_then B0.out (below_then EU.out.2.2.2.2.2 (below_then E10.out.2.2 (below_then E11.out.1.bel hb))))) (fun W' hb' => by have := (E11.out.1.kept (below_then hb hb')).cells.1; exact ⟨this.2, this.1⟩) (E11.out.1.lin.kept (below_then E11.out.1.bel hb)) (E11.out.1.hin.kept (below_then E11.out.1.bel hb))
                rwa [E11.out.2.1, E11.out.2.2] at h1)).mono ?_; rintro e w12 ⟨A12, m12, c12, rfl, h1, h2, h3⟩; have E12 : Hid (((T.filter (atB ((k : Int) + 1))).filter (ovB (loP U) (hiP U))).length = m12 ∧ Trow w12 w11.heap.size A12 c12 ((T.filter (atB ((k : Int) + 1))).filter (ovB (loP U) (hiP U))) ∧ Below w3.heap.size w3 w12) := Lib.hid ⟨h1, h2, below_then E10.out.2.2 (below_then E11.out.1.bel h3)⟩; clear h1 h2 h3)
            | (go_at_call 72; refine (rising_two w12 A3 A12 c3 c12 m3 m12 U ((T.filter (atB ((k : Int) + 1))).filter (ovB (loP U) (hiP U))) EU.out.1 E12.out.1 (EU.out.2.1.kept E12.out.2.2) E12.out.2.1.lies (by have h1 := EU.out.2.2.2.2.1; have h2 := E12.out.1; have h3 := len_at (ovB (loP U) (hiP U)) (T.filter (atB ((k : Int) + 1))); have h4 := len_at (atB ((k : Int) + 1)) T; have h5 := HH.out.len; have h6 := HH.out.few; omega) EU.out.2.2.2.2.1.1).mono ?_; rintro e w13 ⟨g13, c13, S, rfl, h1, h2, h3, h4, h5⟩; have E13 : Hid (S.Perm (U.map Ta.i ++ ((T.filter (atB ((k : Int) + 1))).filter (ovB (loP U) (hiP U))).map Ta.i) ∧ S.length = m3 + m12 ∧ w.heap.size ≤ g13 ∧ g13 < w13.heap.size ∧ Holds (Value.int .i64) w13 g13 0 S.toArray ∧ Below w.heap.size w w13) := Lib.hid ⟨h1, by rw [h1.length_eq, List.length_append, List.length_map, List.length_map, EU.out.1, E12.out.1], Nat.le_trans (below_then B0.out (below_then EU.out.2.2.2.2.2 E12.out.2.2)).size h2, h3, h4, below_then B0.out (below_then EU.out.2.2.2.2.2 (below_then E12.out.2.2 h5))⟩; clear h1 h2 h3 h4 h5))
          go_ret3
          exact ⟨some ⟨g13, 0, none⟩, m3 + m12, c13, (k : Int) + 1, true, S, rfl, ⟨E13.out.2.1, .inr ⟨g13, rfl, E13.out.2.2.1, E13.out.2.2.2.1, E13.out.2.2.2.2.1⟩⟩, E13.out.2.2.2.2.2, fun _ => ⟨rfl, by have := HK0.out; omega, by have h1 := E13.out.1; have h2 := HUU.out; have h3 := HK0.out; subst h3; rw [← h2] at h1; exact h1⟩⟩
        · have d0 : decide ((k : Int) > 0) = true := decide_eq_true (by omega)
          have d1 : decide (0 < (k : Int)) = true := decide_eq_true (by omega)
          have dn : decide (0 < k) = true := decide_eq_true (by omega)
          have HKM := Lib.hid (hm.out (by omega))
          have HMF : Hid (Calls Try.prog 68 #[.slice A3 m3 c3, .func (.func 69) #[] #[]] w3 fun e w' => ∃ q ∈ T.filter (atB k), e = .returned q.val ∧ Below w3.heap.size w3 w') := Lib.hid (minFunc_any A3 _ m3 c3 w3 E3.out.1 E3.out.2.1.lies (by have := len_at (atB k) T; have := E3.out.1; have := HH.out.few; have := HH.out.len; omega) (by omega))
          have HNP : Hid (1 ≤ n) := Lib.hid (by have := len_at (atB k) T; have := E3.out.1; have := HH.out.len; omega)
          clear hk0 hmx
          go_upto_region 8 with (go_at_call 68; go_loud (refine HMF.out.mono ?_; rintro e w4 ⟨q, hq, rfl, hb⟩; have E4 : Hid (q ∈ T ∧ Below w3.heap.size w3 w4) := Lib.hid ⟨mem_at q hq, hb⟩; clear hq hb; unfold Ta.val))
          obtain ⟨qn, hqn⟩ : ∃ m, q.lo.l.length = m := ⟨_, rfl⟩
          obtain ⟨qm, hqm⟩ : ∃ m, q.hi.l.length = m := ⟨_, rfl⟩
          have hl := lit_tab w4 q
          rw [hqn, hqm] at hl
          rw [hqn, hqm]
          obtain ⟨w5, hw5⟩ : ∃ w5, w4.alloc (.cells #[.int .i64 q.i, .int .i64 q.v, .int .i64 q.n, .slice q.lo.a qn q.lo.c, .slice q.hi.a qm q.hi.c] 108) = w5 := ⟨_, rfl⟩
          rw [hw5] at hl
          obtain ⟨g5, hg5⟩ : ∃ g5, w4.heap.size = g5 := ⟨_, rfl⟩
          rw [hg5] at hl
          try rw [hw5]
          try rw [hg5]
          have B5 : Hid (Below w0.heap.size w0 w5) := Lib.hid (below_then E3.out.2.2 (hw5 ▸ E4.out.2.alloc E4.out.2.size _))
          obtain ⟨U, hU⟩ : ∃ U, [q] = U := ⟨_, rfl⟩
          have EU : Hid (U.length = 1 ∧ Lies w5 (some ⟨g5, 0, none⟩) (qvals U) ∧ TIns w5 U ∧ 1 ≤ 1 ∧ (0 < 1 ∧ 1 ≤ n) ∧ Below w0.heap.size w0 w5) := Lib.hid (by
            subst hU
            exact ⟨rfl, hl, (HH.out.ins.kept (below_then B0.out B5.out)).one E4.out.1, Nat.le_refl _, ⟨by omega, HNP.out⟩, B5.out⟩)
          clear hU hl hqn hqm hw5 hg5 E3 E4
          have a0 := HC0.out w5 B5.out
          go_wp2_with (first
            | (go_at_call 67; refine (HTA.out _ _ (below_then B0.out EU.out.2.2.2.2.2)).mono ?_; rintro e w10 ⟨A9, m9, c9, rfl, h1, h2, h3⟩; have E10 : Hid ((T.filter (atB ((k : Int) + 1))).length = m9 ∧ Trow w10 w5.heap.size A9 c9 (T.filter (atB ((k : Int) + 1))) ∧ Below w5.heap.size w5 w10) := Lib.hid ⟨h1, h2, h3⟩; clear h1 h2 h3)
            | (go_at_call 71; refine (overlapping_any (some ⟨g5, 0, none⟩) U 1 1 w10 EU.out.1 (EU.out.2.1.kept E10.out.2.2) (EU.out.2.2.1.kept E10.out.2.2) EU.out.2.2.2.1 (by have := EU.out.2.2.2.2.1; have := HH.out.few; omega) (by have := EU.out.2.2.2.2.1; omega)).mono ?_; rintro e w11 ⟨gh, gl, lo, hi, rfl, e1, e2, e3⟩; have E11 : Hid (Endz w10 w11 gl gh lo hi ∧ lo.l = loP U ∧ hi.l = hiP U) := Lib.hid ⟨e1, e2, e3⟩; clear e1 e2 e3)
            | (go_at_call 70; refine (chosenO_any ⟨gh, 0, none⟩ ⟨gl, 0, none⟩ (ovB (loP U) (hiP U)) A9 (T.filter (atB ((k : Int) + 1))) m9 c9 w11 E10.out.1 ((E10.out.2.1.kept E11.out.1.bel (Nat.le_refl _)).lies) (by have := E10.out.1; have := len_at (atB ((k : Int) + 1)) T; have := HH.out.few; have := HH.out.len; omega) (fun W hb q hq => by
                have h1 := ovC_any q lo hi gh gl W ((TIns.one HH.out.ins (mem_at q hq)).kept (below_then B0.out (below_then EU.out.2.2.2.2.2 (below_then E10.out.2.2 (below_then E11.out.1.bel hb))))) (fun W' hb' => by have := (E11.out.1.kept (below_then hb hb')).cells.1; exact ⟨this.2, this.1⟩) (E11.out.1.lin.kept (below_then E11.out.1.bel hb)) (E11.out.1.hin.kept (below_then E11.out.1.bel hb))
                rwa [E11.out.2.1, E11.out.2.2] at h1)).mono ?_; rintro e w12 ⟨A12, m12, c12, rfl, h1, h2, h3⟩; have E12 : Hid (((T.filter (atB ((k : Int) + 1))).filter (ovB (loP U) (hiP U))).length = m12 ∧ Trow w12 w11.heap.size A12 c12 ((T.filter (atB ((k : Int) + 1))).filter (ovB (loP U) (hiP U))) ∧ Below w5.heap.size w5 w12) := Lib.hid ⟨h1, h2, below_then E10.out.2.2 (below_then E11.out.1.bel h3)⟩; clear h1 h2 h3)
            | (go_at_call 72; refine (rising_two w12 (some ⟨g5, 0, none⟩) A12 1 c12 1 m12 U ((T.filter (atB ((k : Int) + 1))).filter (ovB (loP U) (hiP U))) EU.out.1 E12.out.1 (EU.out.2.1.kept E12.out.2.2) E12.out.2.1.lies (by have h1 := EU.out.2.2.2.2.1; have h2 := E12.out.1; have h3 := len_at (ovB (loP U) (hiP U)) (T.filter (atB ((k : Int) + 1))); have h4 := len_at (atB ((k : Int) + 1)) T; have h5 := HH.out.len; have h6 := HH.out.few; omega) EU.out.2.2.2.2.1.1).mono ?_; rintro e w13 ⟨g13, c13, S, rfl, h1, h2, h3, h4, h5⟩; have E13 : Hid (S.Perm (U.map Ta.i ++ ((T.filter (atB ((k : Int) + 1))).filter (ovB (loP U) (hiP U))).map Ta.i) ∧ S.length = 1 + m12 ∧ w.heap.size ≤ g13 ∧ g13 < w13.heap.size ∧ Holds (Value.int .i64) w13 g13 0 S.toArray ∧ Below w.heap.size w w13) := Lib.hid ⟨h1, by rw [h1.length_eq, List.length_append, List.length_map, List.length_map, EU.out.1, E12.out.1], Nat.le_trans (below_then B0.out (below_then EU.out.2.2.2.2.2 E12.out.2.2)).size h2, h3, h4, below_then B0.out (below_then EU.out.2.2.2.2.2 (below_then E12.out.2.2 h5))⟩; clear h1 h2 h3 h4 h5))
          go_ret3
          exact ⟨some ⟨g13, 0, none⟩, 1 + m12, c13, (k : Int) + 1, true, S, rfl, ⟨E13.out.2.1, .inr ⟨g13, rfl, E13.out.2.2.1, E13.out.2.2.2.1, E13.out.2.2.2.2.1⟩⟩, E13.out.2.2.2.2.2, fun h => absurd h (by have := HKM.out; omega)⟩
      · have hd' := of_decide_eq_true hd
        have HD : Hid (k = 0 → ((T.filter (atB 0)).length : Int) < max fan 2) := Lib.hid (fun h0 => by subst h0; have := E3.out.1; rw [← this] at hd'; exact hd')
        go_wp2_with fail
        go_roundw
        case rel => exact ⟨k + 1, by omega, by go_num, Lib.hid (fun _ => by
          by_cases h0 : k = 0
          · exact HD.out h0
          · exact hm.out (by omega)), Lib.hid E3.out.2.2⟩
        case measure => simp [intOf]; omega
    · obtain rfl : k = 3 := by omega
      go_wp2_with fail
      go_ret3
      exact ⟨none, 0, 0, 0, false, [], rfl, ⟨rfl, .inl rfl⟩, below_then B0.out b2.out, fun h => absurd h (by have := hm.out (by omega); omega)⟩
end Go.Proofs.Ytcffpkflijpdjaa
namespace Go.Proofs.Ytcffpkflijpdjaa
open Go.ChangeShapes Go.WideShapes Go.ChangeAt Go.RowKit
theorem cells22 : Try.prog.cellsOf 22 = 1 := by kernel_rfl
/-- What entries weigh. -/
def wE (q : En) : Nat := q.k.l.length + q.v.l.length + 4
theorem sum_mem {α : Type} (f : α → Nat) : ∀ {l : List α} {x : α}, x ∈ l → f x ≤ (l.map f).sum
  | [], _, h => by cases h
  | y :: l, x, h => by
    rw [List.map_cons, List.sum_cons]
    rcases List.mem_cons.1 h with e | e
    · subst e; omega
    · have := sum_mem f e; omega
/-- Lists that come in, of a told bulk. -/
structure LUp (w : World) (A : Option Addr) (Ls : List Gl) (n c : Nat) : Prop where
  lf : LF w A Ls n c
  cap : n ≤ c
  top : (c : Int) ≤ 9223372036854775807
section
variable {H : Type} {enc : TypeId × Value → H} {W : World} {fuel : Nat} {cs : List Value} {x : DataW H × List MemPlace}
/-- One list, of a told bulk. -/
theorem open_one_up (h : DataW.trod enc Try.prog W 0 (fun _ => true) true fuel 22 cs = some x) : ∃ g : Gl, cs = [g.val] ∧ (Lies W g.a (evals g.l) ∧ EIns W g.l ∧ g.l.length ≤ g.c ∧ (g.c : Int) ≤ 9223372036854775807) ∧ (∀ q ∈ g.l, EFit q) ∧ (g.l.map wE).sum + g.l.length + 1 ≤ Rows.uptoBulk x.1 := by
  obtain ⟨A, n, c, hcs⟩ : ∃ A n c, cs = [.slice A n c] := by
    rcases Go.Deep.open_slice Try.underlying22 h with ⟨h1, -⟩ | ⟨a, len, cap, m, fu, D, Pl, h1, -⟩
    · exact ⟨none, 0, 0, h1⟩
    · exact ⟨some a, len, cap, h1⟩
  obtain ⟨l, h1, h0, h2, ds, h3, h4, h5, -⟩ := open_rows (α := En) En.cells 4 (fun _ => rfl) (by omega) cells26 Try.underlying22 h A n c hcs (fun q d => (In W q.k.a q.k.l q.k.l.length q.k.c ∧ In W q.v.a q.v.l q.v.l.length q.v.c) ∧ EFit q ∧ wE q + 1 ≤ Rows.uptoBulk d) (fun m cs' y hy _ _ => by
    obtain ⟨q, e1, e2, e3, e4, _⟩ := open_entry hy
    exact ⟨q, e1, e2, e3, by unfold wE; omega⟩)
  have hall : ∀ q ∈ l, (In W q.k.a q.k.l q.k.l.length q.k.c ∧ In W q.v.a q.v.l q.v.l.length q.v.c) ∧ EFit q := fun q hq => by
    obtain ⟨i, hi, e⟩ := List.mem_iff_getElem.1 hq
    have := h4 i q (ds[i]'(by omega)) (by rw [List.getElem?_eq_getElem hi, e]) (List.getElem?_eq_getElem (by omega))
    exact ⟨this.1, this.2.1⟩
  have hs := bulk_add wE l ds h3 (fun i q d a1 a2 => (h4 i q d a1 a2).2.2)
  exact ⟨⟨A, c, l⟩, by rw [hcs]; unfold Gl.val; rw [h1], ⟨h2, fun q hq => (hall q hq).1, by rw [h1]; exact h0.1, h0.2⟩, fun q hq => (hall q hq).2, by show (l.map wE).sum + l.length + 1 ≤ _; omega⟩
theorem open_lists_up (h : DataW.trod enc Try.prog W 0 (fun _ => true) true fuel 42 cs = some x) (hb : Rows.uptoBulk x.1 ≤ 1048576) (A : Option Addr) (n c : Nat) (hcs : cs = [.slice A n c]) : ∃ l, LUp W A l n c := by
  obtain ⟨l, h1, h0, h2, ds, h3, h4, h5, -⟩ := open_rows (α := Gl) (fun g => [g.val]) 1 (fun _ => rfl) (by omega) cells22 Try.underlying42 h A n c hcs (fun g d => (Lies W g.a (evals g.l) ∧ EIns W g.l ∧ g.l.length ≤ g.c ∧ (g.c : Int) ≤ 9223372036854775807) ∧ (∀ q ∈ g.l, EFit q) ∧ (g.l.map wE).sum + g.l.length + 1 ≤ Rows.uptoBulk d) (fun m cs' y hy _ _ => by
    obtain ⟨g, e1, e2, e3, e4⟩ := open_one_up hy
    exact ⟨g, e1, e2, e3, e4⟩)
  have hall : ∀ g ∈ l, (Lies W g.a (evals g.l) ∧ EIns W g.l ∧ g.l.length ≤ g.c ∧ (g.c : Int) ≤ 9223372036854775807) ∧ (∀ q ∈ g.l, EFit q) := fun q hq => by
    obtain ⟨i, hi, e⟩ := List.mem_iff_getElem.1 hq
    have := h4 i q (ds[i]'(by omega)) (by rw [List.getElem?_eq_getElem hi, e]) (List.getElem?_eq_getElem (by omega))
    exact ⟨this.1, this.2.1⟩
  have hs := bulk_add (fun g : Gl => (g.l.map wE).sum + g.l.length) l ds h3 (fun i g d a1 a2 => (h4 i g d a1 a2).2.2)
  have hg : ∀ g ∈ l, (g.l.map wE).sum + g.l.length ≤ 1048576 := fun g hg => by
    have := sum_mem (fun g : Gl => (g.l.map wE).sum + g.l.length) hg
    omega
  have hfl : (flat l).length ≤ (l.map (fun g : Gl => (g.l.map wE).sum + g.l.length)).sum := by
    rw [← flat_fl, fl_len]
    clear h1 h2 h3 h4 hall hs hg
    induction l with
    | nil => simp
    | cons g l ih => rw [List.map_cons, List.map_cons, List.sum_cons, List.sum_cons]; omega
  have hq : ∀ z ∈ flat l, FitE z ∧ z.1.length ≤ 1048576 ∧ z.2.2.2.length ≤ 1048576 := fun z hz => by
    rw [← flatE_ers] at hz
    obtain ⟨q, hq, rfl⟩ := List.mem_map.1 hz
    obtain ⟨g, hgm, hqg⟩ := flatE_mem hq
    have h8 := hg g hgm
    have h9 := sum_mem wE hqg
    have e1 : wE q = q.k.l.length + q.v.l.length + 4 := rfl
    have e2 : q.rd.1 = q.k.l := rfl
    have e3 : q.rd.2.2.2 = q.v.l := rfl
    refine ⟨(hall g hgm).2 q hqg, by rw [e2]; omega, by rw [e3]; omega⟩
  have hlies : Lies W A (gvals l) := by
    have : l.flatMap (fun g => [g.val]) = gvals l := by
      clear h1 h2 h3 h4 hall hs hg hfl hq
      induction l with
      | nil => rfl
      | cons g l ih => rw [List.flatMap_cons, ih]; rfl
    rwa [this] at h2
  exact ⟨l, ⟨⟨h1, hlies, fun g hgm => (hall g hgm).1⟩, by omega, by omega, fun z hz => (hq z hz).1, fun z hz => by have := hq z hz; omega⟩, h0.1, h0.2⟩
end
end Go.Proofs.Ytcffpkflijpdjaa
namespace Go.Proofs.Ytcffpkflijpdjaa
open Go.ChangeShapes Go.WideShapes Go.ChangeAt Go.RowKit
theorem cells37o : Try.prog.cellsOf 37 = 1 := by kernel_rfl
theorem cells3o : Try.prog.cellsOf 3 = 1 := by kernel_rfl
theorem cells4o : Try.prog.cellsOf 4 = 1 := by kernel_rfl
theorem cells67o : Try.prog.cellsOf 67 = 5 := by kernel_rfl
theorem cells72o : Try.prog.cellsOf 72 = 3 := by kernel_rfl
theorem bytesIntO : Try.prog.bytesOf 3 = 8 := by kernel_rfl
/-- Options that come in. -/
structure OptIn (w : World) (A : Option Addr) (H : List Int) (n c : Nat) : Prop where
  len : H.length = n
  lies : Lies w A (ivals H)
  few : n * 8 ≤ 140737488351232
/-- How lists are made one. -/
structure HowIn (m z : Int) : Prop where
  m : -9223372036854775808 ≤ m ∧ m ≤ 9223372036854775807
  z : -9223372036854775808 ≤ z ∧ z ≤ 9223372036854775807
section
variable {H : Type} {enc : TypeId × Value → H} {W : World} {fuel : Nat} {cs : List Value} {x : DataW H × List MemPlace}
theorem flat_ints (l : List Int) : l.flatMap (fun k => [(.int .i64 k : Value)]) = ivals l := by
  induction l with
  | nil => rfl
  | cons g l ih => rw [List.flatMap_cons, ih]; rfl
theorem open_ints_said (h : DataW.trod enc Try.prog W 0 (fun _ => true) true fuel 37 cs = some x) : ∃ (A : Option Addr) (n c : Nat) (l : List Int), cs = [.slice A n c] ∧ l.length = n ∧ Lies W A (ivals l) ∧ ((∀ n ∈ x.1.weights Try.prog 37, n ≤ reachBytes) → n * 8 ≤ 140737488351232) := by
  obtain ⟨A, n, c, hcs⟩ : ∃ A n c, cs = [.slice A n c] := by
    rcases Go.Deep.open_slice Try.underlying37 h with ⟨h1, -⟩ | ⟨a, len, cap, m, fu, D, Pl, h1, -⟩
    · exact ⟨none, 0, 0, h1⟩
    · exact ⟨some a, len, cap, h1⟩
  obtain ⟨l, h1, -, h2, ds, h3, h4, h5, h6⟩ := open_rows (α := Int) (fun k => [.int .i64 k]) 1 (fun _ => rfl) (by omega) cells3o Try.underlying37 h A n c hcs (fun _ _ => True) (fun m cs' y hy _ _ => by
    obtain ⟨k, e1, e2⟩ := open_num hy
    exact ⟨k, e1, trivial⟩)
  rw [flat_ints] at h2
  rw [bytesIntO] at h6
  exact ⟨A, n, c, l, hcs, h1, h2, h6⟩
set_option maxRecDepth 100000 in
theorem open_opt_cs (h : DataW.trod enc Try.prog W 0 (fun _ => true) true fuel 67 cs = some x) :
    ∃ a b c d A n cc K, cs = [.int .i64 a, .int .i64 b, .int .i64 c, .int .i64 d, .slice A n cc] ∧ ((∀ n ∈ x.1.weights Try.prog 67, n ≤ reachBytes) → OptIn W A K n cc) := by
  obtain ⟨xs, n, -, rfl, hlen, hxl, hf⟩ := DataW.trod_struct Try.underlying67 h
  rw [cells67o] at hlen
  have h0 : DataW.trod enc Try.prog W 0 (fun _ => true) true n 3 ((cs.drop 0).take (Try.prog.cellsOf 3)) = xs[0]? := hf 0 _ rfl
  have h1 : DataW.trod enc Try.prog W 0 (fun _ => true) true n 3 ((cs.drop 1).take (Try.prog.cellsOf 3)) = xs[1]? := hf 1 _ rfl
  have h2 : DataW.trod enc Try.prog W 0 (fun _ => true) true n 3 ((cs.drop 2).take (Try.prog.cellsOf 3)) = xs[2]? := hf 2 _ rfl
  have h3 : DataW.trod enc Try.prog W 0 (fun _ => true) true n 3 ((cs.drop 3).take (Try.prog.cellsOf 3)) = xs[3]? := hf 3 _ rfl
  have h4 : DataW.trod enc Try.prog W 0 (fun _ => true) true n 37 ((cs.drop 4).take (Try.prog.cellsOf 37)) = xs[4]? := hf 4 _ rfl
  rw [cells3o] at h0 h1 h2 h3
  rw [cells37o] at h4
  match cs, hlen, xs, hxl with
  | [u, v, t, s, r], _, [y0, y1, y2, y3, y4], _ =>
    obtain ⟨a, e1, -⟩ := open_num (h0.trans rfl)
    obtain ⟨b, f1, -⟩ := open_num (h1.trans rfl)
    obtain ⟨c, g1, -⟩ := open_num (h2.trans rfl)
    obtain ⟨d, i1, -⟩ := open_num (h3.trans rfl)
    obtain ⟨A, kn, cc, K, j1, j2, j3, j4⟩ := open_ints_said (h4.trans rfl)
    have a1 : u = .int .i64 a := by simpa using e1
    have a2 : v = .int .i64 b := by simpa using f1
    have a3 : t = .int .i64 c := by simpa using g1
    have a4 : s = .int .i64 d := by simpa using i1
    have a5 : r = .slice A kn cc := by simpa using j1
    subst a1 a2 a3 a4 a5
    refine ⟨a, b, c, d, A, kn, cc, K, rfl, fun hw => ⟨j2, j3, j4 (fun m hm => hw m ?_)⟩⟩
    simp only [DataW.weights, Try.underlying67]
    exact DataW.weights_mem_each (j := 4) (t := 37) rfl rfl m hm
set_option maxRecDepth 100000 in
theorem open_how_cs (h : DataW.trod enc Try.prog W 0 (fun _ => true) true fuel 72 cs = some x) :
    ∃ m z b, cs = [.int .i64 m, .int .i64 z, .bool b] ∧ HowIn m z := by
  obtain ⟨xs, n, -, rfl, hlen, hxl, hf⟩ := DataW.trod_struct Try.underlying72 h
  rw [cells72o] at hlen
  have h0 : DataW.trod enc Try.prog W 0 (fun _ => true) true n 3 ((cs.drop 0).take (Try.prog.cellsOf 3)) = xs[0]? := hf 0 _ rfl
  have h1 : DataW.trod enc Try.prog W 0 (fun _ => true) true n 3 ((cs.drop 1).take (Try.prog.cellsOf 3)) = xs[1]? := hf 1 _ rfl
  have h2 : DataW.trod enc Try.prog W 0 (fun _ => true) true n 4 ((cs.drop 2).take (Try.prog.cellsOf 4)) = xs[2]? := hf 2 _ rfl
  rw [cells3o] at h0 h1
  rw [cells4o] at h2
  match cs, hlen, xs, hxl with
  | [u, v, t], _, [y0, y1, y2], _ =>
    obtain ⟨a, e1, e2⟩ := open_num (h0.trans rfl)
    obtain ⟨b, f1, f2⟩ := open_num (h1.trans rfl)
    obtain ⟨c, b1, -⟩ := DataW.trod_bool Try.underlying4 (h2.trans rfl)
    have a1 : u = .int .i64 a := by simpa using e1
    have a2 : v = .int .i64 b := by simpa using f1
    have a3 : t = .bool c := by simpa using b1
    subst a1 a2 a3
    exact ⟨a, b, c, rfl, e2, f2⟩
end
section
variable {H : Type} {enc : TypeId × Value → H} {W : World} {fuel : Nat} {v : Value} {x : DataW H × List MemPlace}
set_option maxRecDepth 100000 in
theorem open_opt (h : DataW.trod enc Try.prog W 0 (fun _ => true) true fuel 67 v.cells.toList = some x) (hsz : ∀ n ∈ x.1.weights Try.prog 67, n ≤ reachBytes) {base : Nat} (hval : Value.okWide Try.prog W .any base 67 v) :
    ∃ (a b c d : Int) (A : Option Addr) (n cc : Nat), v = Value.agg #[.int .i64 a, .int .i64 b, .int .i64 c, .int .i64 d, .slice A n cc] ∧ ∃ K, OptIn W A K n cc := by
  obtain ⟨cs, rfl, -⟩ := okWide_struct Try.underlying67 hval
  obtain ⟨a, b, c, d, A, n, cc, K, e, h1⟩ := open_opt_cs h
  refine ⟨a, b, c, d, A, n, cc, ?_, K, h1 hsz⟩
  have e2 : cs.toList = [.int .i64 a, .int .i64 b, .int .i64 c, .int .i64 d, .slice A n cc] := by simpa [Value.cells] using e
  rw [show cs = cs.toList.toArray by simp, e2]
set_option maxRecDepth 100000 in
theorem open_how (h : DataW.trod enc Try.prog W 0 (fun _ => true) true fuel 72 v.cells.toList = some x) {base : Nat} (hval : Value.okWide Try.prog W .any base 72 v) :
    ∃ (m z : Int) (b : Bool), v = Value.agg #[.int .i64 m, .int .i64 z, .bool b] ∧ HowIn m z := by
  obtain ⟨cs, rfl, -⟩ := okWide_struct Try.underlying72 hval
  obtain ⟨m, z, b, e, h1⟩ := open_how_cs h
  refine ⟨m, z, b, ?_, h1⟩
  have e2 : cs.toList = [.int .i64 m, .int .i64 z, .bool b] := by simpa [Value.cells] using e
  rw [show cs = cs.toList.toArray by simp, e2]
end
end Go.Proofs.Ytcffpkflijpdjaa
namespace Go.Proofs.Ytcffpkflijpdjaa
open Go.RowKit
/-- A table that the law made itself. -/
structure WS (w W : World) (b : Nat) (L : List Er) (n : Nat) : Prop where
  tab : ∃ t : MT, t.b = b ∧ MTab W t ∧ t.has.Perm L ∧ t.ns.length = n ∧ ∀ g, t.own g → w.heap.size ≤ g
  low : Below w.heap.size w W
theorem WS.kept {w W W' : World} {b n : Nat} {L : List Er} (h : WS w W b L n) (hb : Below W.heap.size W W') : WS w W' b L n := by
  obtain ⟨⟨t, h1, h2, h3, h4, h5⟩, h6⟩ := h
  exact ⟨⟨t, h1, h2.kept hb, h3, h4, h5⟩, below_then h6 hb⟩
end Go.Proofs.Ytcffpkflijpdjaa
namespace Go.Proofs.Ytcffpkflijpdjaa
open Go.RowKit
theorem wpList_append_zero (w : World) {ops : Array Oper} {rest : List Oper} {o : Oper} {a : Act} {Q : Exit → Act → World → Prop} (hgd : o.guard = none) (s x : Operand)
    (ho : o.op = .call { callee := .builtin .append, args := #[s, x], argTypes := #[23, 23] })
    (g : Nat) (M : List Int) (C : Option Addr) (m cm : Nat) (hs : a.eval s = .slice (some ⟨g, 0, none⟩) 0 0) (hx : a.eval x = .slice C m cm) (em : M.length = m) (h : Lit0 w g) (hm : Bys w C M) (hr : M.length ≤ 140737488355328)
    (k : ∀ A' c' w', Row w' g A' c' M → Below w.heap.size w w' → wpList Try.prog ops Q rest (a.put o.dst (.slice A' m c')) w') : wpList Try.prog ops Q (o :: rest) a w := by
  subst em
  refine wpList_plain hgd fun K hK => ?_
  obtain ⟨A', c', w', r, h2, h3⟩ := run_append_zero w o.type g M C cm h hm hr
  have k' := k A' c' w' h2 h3
  unfold Oper.wp execOp
  simp only [ho, resolve, invoke, builtin, Sem.run_bind, Sem.run_pure, Result.andThen_ok, List.map_toArray, List.map_cons, List.map_nil, hs, hx, r]
  exact hK _ _ k'
end Go.Proofs.Ytcffpkflijpdjaa
namespace Go.Proofs.Ytcffpkflijpdjaa
open Go.RowKit
/-- What a copy of tables is. -/
def TCopied (w : World) (T : List Ta) (e : Ending) (w' : World) : Prop := ∃ (T' : List Ta) (A' : Option Addr) (c' : Nat), trs T' = trs T ∧ e = .returned (.slice A' T.length c') ∧ TMades w' w.heap.size T' ∧ Trow w' w.heap.size A' c' T' ∧ Below w.heap.size w w'
set_option maxRecDepth 100000 in
set_option maxHeartbeats 8000000 in
theorem tables_any (A : Option Addr) (T : List Ta) (n c : Nat) (w : World) (h : TsIn w A T n c) (hs : ∀ q ∈ T, q.lo.l.length ≤ 140737488355328 ∧ q.hi.l.length ≤ 140737488355328) :
    Calls Try.prog 66 #[.slice A n c] w (TCopied w T) := by
  have HP := Lib.hid (fun (w' : World) (hb : Below w.heap.size w w') => h.lies.kept hb)
  have HI := Lib.hid (fun (w' : World) (hb : Below w.heap.size w w') => h.ins.kept hb)
  have HN := Lib.hid h.len
  have hl9 := h.few
  have HS := Lib.hid hs
  clear h hs
  go_enter Try.func66, Try.ntmps66
  go_wp2_with fail
  go_loopw [3, 8] (fun t3 t8 wr => ∃ (k : Nat) (A2 : Option Addr) (c2 : Nat) (T' : List Ta), k ≤ n ∧ t8 = .int .i64 k ∧ t3 = .slice A2 k c2 ∧ Hid (T'.length = k ∧ trs T' = (trs T).take k ∧ TMades wr w.heap.size T' ∧ Trow wr w.heap.size A2 c2 T' ∧ Below w.heap.size w wr)) (fun _ t8 _ => n - (intOf t8).toNat)
  case atStart => exact ⟨0, none, 0, [], by omega, rfl, rfl, Lib.hid ⟨rfl, rfl, TMades.nil _ _, Trow.nil _ _, Below.refl _ _⟩⟩
  case round =>
    obtain ⟨k, A2, c2, T', hk, rfl, rfl, hr⟩ := hrel
    by_cases hlt : k < n
    · have hq := List.getElem?_eq_getElem (l := T) (i := k) (by have := HN.out; omega)
      generalize T[k]'(by have := HN.out; omega) = x at hq
      obtain ⟨ad, rfl, a0, a1, a2, a3, a4⟩ := lies_table (HP.out _ hr.out.2.2.2.2) hq
      have hmem := List.mem_of_getElem? hq
      have HX := Lib.hid (fun (w' : World) (hb : Below w.heap.size w w') => HI.out w' hb x hmem)
      have HXL := Lib.hid (HS.out x hmem)
      have HST : Hid ((trs T).take (k + 1) = (trs T).take k ++ [x.rd]) := Lib.hid (by rw [List.take_add_one, trs_get hq]; rfl)
      obtain ⟨m, hm2⟩ : ∃ m, x.lo.l.length = m := ⟨_, rfl⟩
      obtain ⟨z, hz2⟩ : ∃ z, x.hi.l.length = z := ⟨_, rfl⟩
      rw [hm2] at a3
      rw [hz2] at a4
      have HM2 := Lib.hid (And.intro hm2 hz2)
      have k0 : (k : Int) < n := by omega
      have WS : Hid (w.heap.size ≤ wr.heap.size) := Lib.hid hr.out.2.2.2.2.size
      clear hq hm2 hz2 hmem
      go_upto_region 6 with fail
      obtain ⟨wx, hwx⟩ : ∃ wx, wr.alloc (.cells #[.int .i64 x.i, .int .i64 x.v, .int .i64 x.n, .slice x.lo.a m x.lo.c, .slice x.hi.a z x.hi.c] 108) = wx := ⟨_, rfl⟩
      obtain ⟨g, hg⟩ : ∃ g, wr.heap.size = g := ⟨_, rfl⟩
      have HOB : Hid (∀ W, Below wx.heap.size wx W → W.heap[g]? = some (.cells #[.int .i64 x.i, .int .i64 x.v, .int .i64 x.n, .slice x.lo.a m x.lo.c, .slice x.hi.a z x.hi.c] 108 (0, 0))) := Lib.hid (fun W hb => by subst hwx hg; exact box_table hb)
      have BX : Hid (Below w.heap.size w wx ∧ Below g wr wx ∧ wx.heap.size = g + 1) := Lib.hid ⟨hwx ▸ hr.out.2.2.2.2.alloc WS.out _, by subst hg; exact hwx ▸ below_new _ _, by rw [← hwx, ← hg]; simp⟩
      try rw [hwx]
      try rw [hg]
      have HG := Lib.hid hg
      clear hwx hg a0 a1 a2 a3 a4
      have c3 := (box_five (HOB.out (wx.alloc (.cells #[] 5)) (below_new wx _))).2.2.2.1
      go_upto_region 7 with (at_builtin; refine wpList_append_zero _ (by rfl) (.tmp 15) (.tmp 17) (by rfl) wx.heap.size x.lo.l x.lo.a m x.lo.c (by first | rfl | (simp [Act.eval]; done)) (by first | rfl | (simp [Act.eval]; done)) HM2.out.1 (Lit0.new _ _ rfl) ((HX.out _ BX.out.1).1.kept (below_new _ _)).bys HXL.out.1 ?_; intro A6 c6 w6 r6 b6; have H6 : Hid (Row w6 wx.heap.size A6 c6 x.lo.l ∧ Below wx.heap.size wx w6) := Lib.hid ⟨r6, below_then (below_new _ _) b6⟩; have f3 := froz w6 g 3 _ _ (HOB.out w6 H6.out.2); have c3' : w6.cell? ⟨g, 3, none⟩ = _ := (box_five (HOB.out w6 H6.out.2)).2.2.2.1; clear r6 b6)
      clear c3
      try clear c3'
      try clear f3
      have hob6 := HOB.out w6 H6.out.2
      obtain ⟨w7, hw7⟩ : ∃ w7, w6.setCell ⟨g, 3, none⟩ (.slice A6 m c6) = w7 := ⟨_, rfl⟩
      have H7 : Hid (w7.heap[g]? = some (.cells #[.int .i64 x.i, .int .i64 x.v, .int .i64 x.n, .slice A6 m c6, .slice x.hi.a z x.hi.c] 108 (0, 0)) ∧ Row w7 wx.heap.size A6 c6 x.lo.l ∧ Below g wr w7 ∧ g + 1 ≤ w7.heap.size) := Lib.hid (by
        have kk := (Kp.refl (fun j => j ≠ g) w6).set g 3 (.slice A6 m c6) (by simp)
        refine ⟨by rw [← hw7]; exact heap_setCell_same w6 g 3 _ _ _ hob6, ?_, ?_, ?_⟩
        · rw [← hw7]
          exact own_kp H6.out.1 kk (fun ad ha => by have := (own_in H6.out.1 ad ha).1; have := BX.out.2.2; omega)
        · have h1 : Below g wr w6 := BX.out.2.1.trans (H6.out.2.mono (by have := BX.out.2.2; omega))
          exact h1.trans (by rw [← hw7]; exact kk.below (fun j hj => by omega))
        · rw [← hw7]
          have := H6.out.2.size
          have := BX.out.2.2
          simp
          omega)
      try rw [hw7]
      clear hw7 hob6
      have B7 : Hid (Below w.heap.size w w7) := Lib.hid (hr.out.2.2.2.2.trans (H7.out.2.2.1.mono (by rw [← HG.out]; exact WS.out)))
      clear H6
      have HOB7 : Hid (∀ W, Below w7.heap.size w7 W → W.heap[g]? = some (.cells #[.int .i64 x.i, .int .i64 x.v, .int .i64 x.n, .slice A6 m c6, .slice x.hi.a z x.hi.c] 108 (0, 0))) := Lib.hid (fun W hb => (hb.block g (Array.getElem?_eq_some_iff.1 H7.out.1).1).trans H7.out.1)
      have c4 := (box_five (HOB7.out (w7.alloc (.cells #[] 5)) (below_new w7 _))).2.2.2.2
      go_upto_region 8 with (at_builtin; refine wpList_append_zero _ (by rfl) (.tmp 20) (.tmp 22) (by rfl) w7.heap.size x.hi.l x.hi.a z x.hi.c (by first | rfl | (simp [Act.eval]; done)) (by first | rfl | (simp [Act.eval]; done)) HM2.out.2 (Lit0.new _ _ rfl) ((HX.out _ B7.out).2.kept (below_new _ _)).bys HXL.out.2 ?_; intro A8 c8 w8 r8 b8; have H8 : Hid (Row w8 w7.heap.size A8 c8 x.hi.l ∧ Below w7.heap.size w7 w8) := Lib.hid ⟨r8, below_then (below_new _ _) b8⟩; have f4 := froz w8 g 4 _ _ (HOB7.out w8 H8.out.2); have c4' : w8.cell? ⟨g, 4, none⟩ = _ := (box_five (HOB7.out w8 H8.out.2)).2.2.2.2; clear r8 b8)
      clear c4
      try clear c4'
      try clear f4
      have hob8 := HOB7.out w8 H8.out.2
      obtain ⟨w9, hw9⟩ : ∃ w9, w8.setCell ⟨g, 4, none⟩ (.slice A8 z c8) = w9 := ⟨_, rfl⟩
      have H9 : Hid (w9.heap[g]? = some (.cells #[.int .i64 x.i, .int .i64 x.v, .int .i64 x.n, .slice A6 m c6, .slice A8 z c8] 108 (0, 0)) ∧ Row w9 wr.heap.size A6 c6 x.lo.l ∧ Row w9 wr.heap.size A8 c8 x.hi.l ∧ Below wr.heap.size wr w9) := Lib.hid (by
        have kk := (Kp.refl (fun j => j ≠ g) w8).set g 4 (.slice A8 z c8) (by simp)
        have s1 := BX.out.2.2
        have s2 := H7.out.2.2.2
        have s3 := HG.out
        refine ⟨by rw [← hw9]; exact heap_setCell_same w8 g 4 _ _ _ hob8, ?_, ?_, ?_⟩
        · rw [← hw9]
          exact own_mono (own_kp (H7.out.2.1.kept H8.out.2 (Nat.le_refl _)) kk (fun ad ha => by have := (own_in H7.out.2.1 ad ha).1; omega)) (by omega)
        · rw [← hw9]
          exact own_mono (own_kp H8.out.1 kk (fun ad ha => by have := (own_in H8.out.1 ad ha).1; omega)) (by omega)
        · rw [s3]
          exact (H7.out.2.2.1.trans (H8.out.2.mono (by omega))).trans (by rw [← hw9]; exact kk.below (fun j hj => by omega)))
      try rw [hw9]
      clear hw9 hob8 H7 H8 HOB HOB7 B7
      obtain ⟨c0, c1, c2', c3, c4⟩ := box_five H9.out.1
      have B9 : Hid (Below w.heap.size w w9) := Lib.hid (below_then hr.out.2.2.2.2 H9.out.2.2.2)
      go_wp2_with (at_builtin; refine wpList_append_trow _ (by rfl) (.tmp 25) (.tmp 27) (by rfl) w.heap.size A2 c2 T' [⟨x.i, x.v, x.n, ⟨A6, c6, x.lo.l⟩, ⟨A8, c8, x.hi.l⟩⟩] _ k 1 1 (by first | rfl | (simp [Act.eval]; done)) (by first | rfl | (simp [Act.eval]; done)) hr.out.1 rfl ((hr.out.2.2.2.1.kept H9.out.2.2.2 (Nat.le_refl _)).alloc _) (lit_table _ x.i x.v x.n A6 A8 c6 c8 x.lo.l x.hi.l m z HM2.out.1 HM2.out.2) (by have := B9.out.size; simp; omega) (by have := hr.out.1; simp only [List.length_singleton]; omega) ?_; intro A10 c10 w10 r10 b10 g10; have H10 : Hid (Trow w10 w.heap.size A10 c10 (T' ++ [⟨x.i, x.v, x.n, ⟨A6, c6, x.lo.l⟩, ⟨A8, c8, x.hi.l⟩⟩]) ∧ TMades w10 w.heap.size (T' ++ [⟨x.i, x.v, x.n, ⟨A6, c6, x.lo.l⟩, ⟨A8, c8, x.hi.l⟩⟩]) ∧ Below w.heap.size w w10) := (by
          have g9 := g10
          rw [← hr.out.1] at g9
          have n1 := ((hr.out.2.2.1.kept H9.out.2.2.2 (Nat.le_refl _)).snoc (q := ⟨x.i, x.v, x.n, ⟨A6, c6, x.lo.l⟩, ⟨A8, c8, x.hi.l⟩⟩) (H9.out.2.1.mono WS.out) (H9.out.2.2.1.mono WS.out)).kept (below_new w9 (.cells #[.int .i64 x.i, .int .i64 x.v, .int .i64 x.n, .slice A6 m c6, .slice A8 z c8] 108)) (Nat.le_refl _)
          exact Lib.hid ⟨r10, n1.besideT ((hr.out.2.2.2.1.kept H9.out.2.2.2 (Nat.le_refl _)).alloc _) g9, (B9.out.alloc B9.out.size _).trans b10⟩); clear r10 b10 g10)
      go_roundw
      case rel => exact ⟨k + 1, A10, c10, _, by omega, by go_num, rfl, Lib.hid ⟨by rw [List.length_append, hr.out.1]; rfl, by rw [trs_append, hr.out.2.1, HST.out]; rfl, H10.out.2.1, H10.out.1, H10.out.2.2⟩⟩
      case measure => simp [intOf]; omega
    · obtain rfl : k = n := by omega
      have e : (trs T).take k = trs T := List.take_of_length_le (by rw [trs_len]; have := HN.out; omega)
      rw [e] at hr
      go_wp2_with fail
      go_ret
      exact ⟨T', A2, c2, hr.out.2.1, ret_sliceN HN.out.symm, hr.out.2.2⟩
end Go.Proofs.Ytcffpkflijpdjaa
