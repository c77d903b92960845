/-
  Memory: tables as they lie, five cells each. Walks: the tables that are wanted. Plain: a list with towers: what stands at each height leads on to what is behind; the lowest leads to all. Plain: an entry is put among those of a list with towers. Memory: rows of nodes, sixteen cells each; rows of numbers. Walks: a table in memory; what follows at the lowest height; is it ahead. Walks: the last ones ahead of an entry, at each height.
-/
import Derived.Laws.EntriesVeiled
import Derived.Test.YtcffpkflijpdjaaCJ11
import Derived.Test.YtcffpkflijpdjaaCJ12
set_option linter.unusedSimpArgs false
set_option linter.unusedVariables false
namespace Go.Proofs.Ytcffpkflijpdjaa
open Go.RowKit
/-- What is read of a table. -/
abbrev Tr := Int × Int × Int × List Int × List Int
/-- A table as it lies. -/
structure Ta where
  i : Int
  v : Int
  n : Int
  lo : Sl
  hi : Sl
def Ta.cells (q : Ta) : List Value := [.int .i64 q.i, .int .i64 q.v, .int .i64 q.n, q.lo.val, q.hi.val]
def Ta.val (q : Ta) : Value := .agg #[.int .i64 q.i, .int .i64 q.v, .int .i64 q.n, .slice q.lo.a q.lo.l.length q.lo.c, .slice q.hi.a q.hi.l.length q.hi.c]
def Ta.rd (q : Ta) : Tr := (q.i, q.v, q.n, q.lo.l, q.hi.l)
def trs (l : List Ta) : List Tr := l.map Ta.rd
theorem trs_len (l : List Ta) : (trs l).length = l.length := by simp [trs]
theorem trs_append (l m : List Ta) : trs (l ++ m) = trs l ++ trs m := by simp [trs]
theorem trs_get {l : List Ta} {j : Nat} {q : Ta} (h : l[j]? = some q) : (trs l)[j]? = some q.rd := by simp [trs, h]
def qvals (l : List Ta) : List Value := l.flatMap Ta.cells
theorem qvals_len : ∀ l : List Ta, (qvals l).length = l.length * 5
  | [] => rfl
  | q :: l => by
    have := qvals_len l
    unfold qvals at this ⊢
    rw [List.flatMap_cons, List.length_append, this]
    simp [Ta.cells]
    omega
theorem qvals_append (l m : List Ta) : qvals (l ++ m) = qvals l ++ qvals m := by simp [qvals]
theorem qvals_get : ∀ (l : List Ta) (j : Nat) (q : Ta), l[j]? = some q → ∀ (i : Nat) (u : Value), q.cells[i]? = some u → (qvals l)[j * 5 + i]? = some u
  | [], _, _, h, _, _, _ => by simp at h
  | p :: l, 0, q, h, i, u, hu => by
    simp at h
    subst h
    have e : qvals (p :: l) = p.cells ++ qvals l := rfl
    rw [e, Nat.zero_mul, Nat.zero_add, List.getElem?_append_left (List.getElem?_eq_some_iff.1 hu).1]
    exact hu
  | p :: l, j + 1, q, h, i, u, hu => by
    have ih := qvals_get l j q (by simpa using h) i u hu
    have e : qvals (p :: l) = p.cells ++ qvals l := rfl
    have e5 : p.cells.length = 5 := rfl
    rw [e, List.getElem?_append_right (by omega), e5, show (j + 1) * 5 + i - 5 = j * 5 + i by omega]
    exact ih
theorem qvals_one {l : List Ta} : ∀ u ∈ qvals l, u.oneCell' = true := fun u hu => by
  obtain ⟨q, -, h⟩ := List.mem_flatMap.1 hu
  simp [Ta.cells] at h
  rcases h with rfl | rfl | rfl | rfl | rfl <;> rfl
/-- The cells of one table, as a walk spells them. -/
def AtT (w : World) (E : Addr) (q : Ta) : Prop := w.cell? E = some (.int .i64 q.i) ∧ w.cell? ⟨E.block, E.off + 1, none⟩ = some (.int .i64 q.v) ∧ w.cell? ⟨E.block, E.off + 2, none⟩ = some (.int .i64 q.n) ∧ w.cell? ⟨E.block, E.off + 3, none⟩ = some (.slice q.lo.a q.lo.l.length q.lo.c) ∧ w.cell? ⟨E.block, E.off + 4, none⟩ = some (.slice q.hi.a q.hi.l.length q.hi.c)
theorem lies_table {w : World} {A : Option Addr} {l : List Ta} {j : Nat} {q : Ta} (h : Lies w A (qvals l)) (hq : l[j]? = some q) : ∃ ad, A = some ad ∧ AtT w (ad.add (j * 5)) q := by
  have h0 := qvals_get l j q hq
  rcases h with h | ⟨ad, rfl, h2⟩
  · have := h0 0 _ rfl
    rw [h] at this
    simp at this
  · refine ⟨ad, rfl, ?_, ?_, ?_, ?_, ?_⟩
    · have := h2 _ _ (h0 0 _ rfl)
      simpa using this
    · have := h2 _ _ (h0 1 _ rfl)
      rw [← add_add] at this
      simpa [Addr.add] using this
    · have := h2 _ _ (h0 2 _ rfl)
      rw [← add_add] at this
      simpa [Addr.add] using this
    · have := h2 _ _ (h0 3 _ rfl)
      rw [← add_add] at this
      simpa [Addr.add, Sl.val] using this
    · have := h2 _ _ (h0 4 _ rfl)
      rw [← add_add] at this
      simpa [Addr.add, Sl.val] using this
theorem lies_table_at {w : World} {ad : Addr} {l : List Ta} {j : Nat} {q : Ta} (h : Lies w (some ad) (qvals l)) (hq : l[j]? = some q) : AtT w (ad.add (j * 5)) q := by
  obtain ⟨ad', e, h'⟩ := lies_table h hq
  injection e with e
  subst e
  exact h'
theorem info108 : (Try.prog.info? 108).map (fun i => (i.zero, i.size, i.bytes)) = some (some (.agg #[.int .i64 0, .int .i64 0, .int .i64 0, .slice none 0 0, .slice none 0 0]), 5, 72) := by kernel_rfl
/-- A row of tables of the call's own, or nil. -/
def Trow (w : World) (B : Nat) (A : Option Addr) (c : Nat) (l : List Ta) : Prop := w.ownsRow B 108 5 (.slice A l.length c) l.length (qvals l)
theorem Trow.nil (w : World) (B : Nat) : Trow w B none 0 [] := World.ownsRow_nil w B _ _
theorem Trow.lies {w : World} {B : Nat} {A : Option Addr} {c : Nat} {l : List Ta} (h : Trow w B A c l) : Lies w A (qvals l) := by
  rcases h.2 with ⟨_, h⟩ | ⟨g, cap, cur, e, _⟩
  · exact .inl (by rw [List.eq_nil_of_length_eq_zero h]; rfl)
  · injection e with e1 e2 e3
    subst e1
    exact .inr ⟨_, rfl, fun j u hu => World.ownsRow.cells h (g := g) rfl j u hu⟩
theorem Trow.kept {w w' : World} {B C : Nat} {A : Option Addr} {c : Nat} {l : List Ta} (h : Trow w B A c l) (hb : Below C w w') (hC : w.heap.size ≤ C) : Trow w' B A c l := own_kept h hb hC
theorem Trow.mono {w : World} {B C : Nat} {A : Option Addr} {c : Nat} {l : List Ta} (h : Trow w B A c l) (hC : C ≤ B) : Trow w C A c l := own_mono h hC
theorem Trow.alloc {w : World} {B : Nat} {A : Option Addr} {c : Nat} {l : List Ta} (h : Trow w B A c l) (o : Obj) : Trow (w.alloc o) B A c l := h.kept (below_new w o) (Nat.le_refl _)
theorem wpList_append_trow (w : World) {ops : Array Oper} {rest : List Oper} {o : Oper} {a : Act} {Q : Exit → Act → World → Prop} (hgd : o.guard = none) (s x : Operand)
    (ho : o.op = .call { callee := .builtin .append, args := #[s, x], argTypes := #[80, 80] })
    (B : Nat) (A : Option Addr) (c : Nat) (T U : List Ta) (C : Option Addr) (n m cm : Nat) (hs : a.eval s = .slice A n c) (hx : a.eval x = .slice C m cm) (en : T.length = n) (em : U.length = m) (h : Trow w B A c T) (hm : Lies w C (qvals U)) (hB : B ≤ w.heap.size) (hr : (T.length + U.length) * 72 ≤ 140737488355328)
    (k : ∀ A' c' w', Trow w' B A' c' (T ++ U) → Below B w w' → w.grownBy w' (Value.slice A n c).ownBlock → wpList Try.prog ops Q rest (a.put o.dst (.slice A' (n + m) c')) w') : wpList Try.prog ops Q (o :: rest) a w := by
  subst en
  subst em
  obtain ⟨i, hi, hz0, hz1, hz2⟩ := info_parts info108
  refine wpList_plain hgd fun K hK => ?_
  obtain ⟨A', c', w', r, h2, h3, h4⟩ := run_append_grown (P := Try.prog) w 80 o.type 108 i (.agg #[.int .i64 0, .int .i64 0, .int .i64 0, .slice none 0 0, .slice none 0 0]) 5 72 Try.underlying80 hi hz0 hz1 hz2 rfl (by decide) B A T.length c (qvals T) h C U.length cm (qvals U) (by rw [qvals_len]) hm qvals_one (by unfold maxLen; omega) hr hB
  rw [← qvals_append] at h2
  have k' := k A' c' w' (by unfold Trow; rw [List.length_append]; exact h2) h3 h4
  unfold Oper.wp execOp
  simp only [ho, resolve, invoke, builtin, Sem.run_bind, Sem.run_pure, Result.andThen_ok, List.map_toArray, List.map_cons, List.map_nil, hs, hx, r]
  exact hK _ _ k'
/-- Bytes that may be read. -/
def TIns (w : World) (l : List Ta) : Prop := ∀ q ∈ l, In w q.lo.a q.lo.l q.lo.l.length q.lo.c ∧ In w q.hi.a q.hi.l q.hi.l.length q.hi.c
theorem TIns.kept {w w' : World} {l : List Ta} (h : TIns w l) (hb : Below w.heap.size w w') : TIns w' l := fun q hq => ⟨(h q hq).1.kept hb, (h q hq).2.kept hb⟩
/-- Tables whose bytes are rows of the call's own. -/
def TMades (w : World) (B : Nat) (l : List Ta) : Prop := ∀ q ∈ l, Row w B q.lo.a q.lo.c q.lo.l ∧ Row w B q.hi.a q.hi.c q.hi.l
theorem TMades.nil (w : World) (B : Nat) : TMades w B [] := fun _ h => by cases h
theorem TMades.kept {w w' : World} {B C : Nat} {l : List Ta} (h : TMades w B l) (hb : Below C w w') (hC : w.heap.size ≤ C) : TMades w' B l := fun q hq => ⟨(h q hq).1.kept hb hC, (h q hq).2.kept hb hC⟩
theorem TMades.mono {w : World} {B C : Nat} {l : List Ta} (h : TMades w B l) (hC : C ≤ B) : TMades w C l := fun q hq => ⟨(h q hq).1.mono hC, (h q hq).2.mono hC⟩
theorem TMades.snoc {w : World} {B : Nat} {l : List Ta} {q : Ta} (h : TMades w B l) (hk : Row w B q.lo.a q.lo.c q.lo.l) (hv : Row w B q.hi.a q.hi.c q.hi.l) : TMades w B (l ++ [q]) := fun x hx => by
  rcases List.mem_append.1 hx with hx | hx
  · exact h x hx
  · rw [List.mem_singleton] at hx
    subst hx
    exact ⟨hk, hv⟩
theorem TMades.besideT {w w' : World} {B D : Nat} {C : Option Addr} {d : Nat} {l T : List Ta} (h : TMades w B l) (hs : Trow w D C d T) (hg : w.grownBy w' (Value.slice C T.length d).ownBlock) : TMades w' B l := fun q hq => ⟨own_apart (h q hq).1 hs (by decide) hg, own_apart (h q hq).2 hs (by decide) hg⟩
theorem lit_table (w : World) (i v n : Int) (kA vA : Option Addr) (kc vc : Nat) (kl vl : List Int) (p m : Nat) (hn : kl.length = p) (hm : vl.length = m) : Lies (w.alloc (.cells #[.int .i64 i, .int .i64 v, .int .i64 n, .slice kA p kc, .slice vA m vc] 108)) (some ⟨w.heap.size, 0, none⟩) (qvals [⟨i, v, n, ⟨kA, kc, kl⟩, ⟨vA, vc, vl⟩⟩]) := by
  subst hn
  subst hm
  exact lit_lies w _ _ rfl _
theorem box_table {w : World} {v0 v1 v2 v3 v4 : Value} {W : World} (hb : Below (w.alloc (.cells #[v0, v1, v2, v3, v4] 108)).heap.size (w.alloc (.cells #[v0, v1, v2, v3, v4] 108)) W) : W.heap[w.heap.size]? = some (.cells #[v0, v1, v2, v3, v4] 108 (0, 0)) :=
  (hb.block _ (by simp)).trans (heap_alloc_new w _)
theorem box_five {W : World} {g : Nat} {v0 v1 v2 v3 v4 : Value} {t : TypeId} {fr : Nat × Nat} (e : W.heap[g]? = some (.cells #[v0, v1, v2, v3, v4] t fr)) : W.cell? ⟨g, 0, none⟩ = some v0 ∧ W.cell? ⟨g, 1, none⟩ = some v1 ∧ W.cell? ⟨g, 2, none⟩ = some v2 ∧ W.cell? ⟨g, 3, none⟩ = some v3 ∧ W.cell? ⟨g, 4, none⟩ = some v4 := by
  refine ⟨?_, ?_, ?_, ?_, ?_⟩ <;> simp [World.cell?, e]
end Go.Proofs.Ytcffpkflijpdjaa
namespace Go.Proofs.Ytcffpkflijpdjaa
open Go.RowKit
def Chos (p : Ta → Bool) (l : List Ta) (w : World) (e : Ending) (w' : World) : Prop := ∃ (A' : Option Addr) (m c' : Nat), e = .returned (.slice A' m c') ∧ (l.filter p).length = m ∧ Trow w' w.heap.size A' c' (l.filter p) ∧ Below w.heap.size w w'
theorem filter_step {p : Ta → Bool} {l : List Ta} {k : Nat} {x : Ta} (h : l[k]? = some x) : (l.take (k + 1)).filter p = (l.take k).filter p ++ (if p x = true then [x] else []) := by
  rw [List.take_add_one, h, List.filter_append]
  congr 1
  cases hp : p x <;> simp [hp]
theorem filter_few (p : Ta → Bool) (l : List Ta) (k : Nat) : ((l.take k).filter p).length ≤ k := by
  have := List.length_filter_le p (l.take k)
  rw [List.length_take] at this
  omega
set_option maxRecDepth 100000 in
set_option maxHeartbeats 8000000 in
theorem chosenL_any (y1 : Addr) (p : Ta → Bool) (A : Option Addr) (l : List Ta) (n c : Nat) (w : World) (hn : l.length = n) (h : Lies w A (qvals l)) (hl : n * 72 ≤ 140737488351232)
    (hf : ∀ W, Below w.heap.size w W → ∀ q ∈ l, Calls Try.prog 89 (#[q.val] ++ #[.pointer (some y1)]) W fun e w' => e = .returned (.bool (p q)) ∧ Below W.heap.size W w') :
    Calls Try.prog 70 #[.slice A n c, .func (.func 89) #[] #[.pointer (some y1)]] w (Chos p l w) := by
  have HP := Lib.hid (fun (w' : World) (hb : Below w.heap.size w w') => h.kept hb)
  have HN := Lib.hid hn
  have HF := Lib.hid hf
  have hl9 := hl
  clear h hn hf
  go_enter Try.func70, Try.ntmps70
  go_wp2_with fail
  go_loopw [5, 10] (fun t5 t10 wr => ∃ (k j : Nat) (A2 : Option Addr) (c2 : Nat), k ≤ n ∧ t10 = .int .i64 k ∧ t5 = .slice A2 j c2 ∧ Hid (((l.take k).filter p).length = j) ∧ Hid (Trow wr w.heap.size A2 c2 ((l.take k).filter p)) ∧ Hid (Below w.heap.size w wr)) (fun _ t10 _ => n - (intOf t10).toNat)
  case atStart => exact ⟨0, 0, none, 0, by omega, rfl, rfl, Lib.hid rfl, Lib.hid (Trow.nil _ _), Lib.hid (Below.refl _ _)⟩
  case round =>
    obtain ⟨k, j, A2, c2, hk, rfl, rfl, hj, r2, b2⟩ := hrel
    by_cases hlt : k < n
    · have hq := List.getElem?_eq_getElem (l := l) (i := k) (by have := HN.out; omega)
      generalize l[k]'(by have := HN.out; omega) = x at hq
      obtain ⟨ad, rfl, a0, a1, a2, a3, a4⟩ := lies_table (HP.out _ b2.out) hq
      have HMEM := Lib.hid (List.mem_of_getElem? hq)
      have HST := Lib.hid (filter_step (p := p) hq)
      have HFW := Lib.hid (filter_few p l k)
      obtain ⟨m, hm2⟩ : ∃ m, x.lo.l.length = m := ⟨_, rfl⟩
      obtain ⟨z, hz2⟩ : ∃ z, x.hi.l.length = z := ⟨_, rfl⟩
      rw [hm2] at a3
      rw [hz2] at a4
      have HM2 := Lib.hid (And.intro hm2 hz2)
      have k0 : (k : Int) < n := by omega
      have WS : Hid (w.heap.size ≤ wr.heap.size) := Lib.hid b2.out.size
      clear hq hm2 hz2
      go_upto_region 5 with fail
      obtain ⟨wx, hwx⟩ : ∃ wx, wr.alloc (.cells #[.int .i64 x.i, .int .i64 x.v, .int .i64 x.n, .slice x.lo.a m x.lo.c, .slice x.hi.a z x.hi.c] 108) = wx := ⟨_, rfl⟩
      have HOB : Hid (∀ W, Below wx.heap.size wx W → W.heap[wr.heap.size]? = some (.cells #[.int .i64 x.i, .int .i64 x.v, .int .i64 x.n, .slice x.lo.a m x.lo.c, .slice x.hi.a z x.hi.c] 108 (0, 0))) := Lib.hid (fun W hb => by subst hwx; exact box_table hb)
      have BX : Hid (Below w.heap.size w wx) := Lib.hid (hwx ▸ b2.out.alloc WS.out _)
      have BR : Hid (Below wr.heap.size wr wx) := Lib.hid (hwx ▸ below_new _ _)
      rw [hwx]
      clear hwx a0 a1 a2 a3 a4
      obtain ⟨c0, c1, c2', c3, c4⟩ := box_five (HOB.out wx (Below.refl _ _))
      obtain ⟨b, hb⟩ : ∃ b, p x = b := ⟨_, rfl⟩
      have HFX : Hid (Calls Try.prog 89 (#[.agg #[.int .i64 x.i, .int .i64 x.v, .int .i64 x.n, .slice x.lo.a m x.lo.c, .slice x.hi.a z x.hi.c]] ++ #[.pointer (some y1)]) wx fun e w' => e = .returned (.bool b) ∧ Below wx.heap.size wx w') := Lib.hid (by
        have := HF.out wx BX.out x HMEM.out
        unfold Ta.val at this
        rwa [HM2.out.1, HM2.out.2, hb] at this)
      rw [hb] at HST
      clear hb
      cases b
      · go_wp2_with (go_at_call 89; refine HFX.out.mono ?_; rintro e w6 ⟨rfl, b6⟩; have B6 := Lib.hid b6; clear b6)
        have R6 : Hid (Below wr.heap.size wr w6) := Lib.hid (below_then BR.out B6.out)
        go_roundw
        case rel => exact ⟨k + 1, j, A2, c2, by omega, by go_num, rfl, Lib.hid (by rw [HST.out]; simpa using hj.out), Lib.hid (by rw [HST.out, if_neg (by simp), List.append_nil]; exact r2.out.kept R6.out (Nat.le_refl _)), Lib.hid (below_then b2.out R6.out)⟩
        case measure => simp [intOf]; omega
      · go_upto_region 6 with (go_at_call 89; refine HFX.out.mono ?_; rintro e w6 ⟨rfl, b6⟩; have B6 := Lib.hid b6; clear b6 c0 c1 c2' c3 c4; obtain ⟨c0, c1, c2', c3, c4⟩ := box_five (HOB.out w6 B6.out))
        have R6 : Hid (Below wr.heap.size wr w6) := Lib.hid (below_then BR.out B6.out)
        have W6 : Hid (Below w.heap.size w w6) := Lib.hid (below_then b2.out R6.out)
        go_wp2_with (at_builtin; refine wpList_append_trow _ (by rfl) (.tmp 17) (.tmp 19) (by rfl) w.heap.size A2 c2 ((l.take k).filter p) [x] _ j 1 1 (by first | rfl | (simp [Act.eval]; done)) (by first | rfl | (simp [Act.eval]; done)) hj.out rfl ((r2.out.kept R6.out (Nat.le_refl _)).alloc _) (lit_table _ x.i x.v x.n x.lo.a x.hi.a x.lo.c x.hi.c x.lo.l x.hi.l m z HM2.out.1 HM2.out.2) (by have := W6.out.size; simp; omega) (by have := HFW.out; simp only [List.length_singleton]; omega) ?_; intro A8 c8 w8 r8 b8 g8; have H8 : Hid (Trow w8 w.heap.size A8 c8 ((l.take k).filter p ++ [x]) ∧ Below w.heap.size w w8) := Lib.hid ⟨r8, (W6.out.alloc W6.out.size _).trans b8⟩; clear r8 b8 g8)
        go_roundw
        case rel => exact ⟨k + 1, j + 1, A8, c8, by omega, by go_num, rfl, Lib.hid (by rw [HST.out, if_pos trivial, List.length_append, hj.out]; rfl), Lib.hid (by rw [HST.out, if_pos trivial]; exact H8.out.1), Lib.hid H8.out.2⟩
        case measure => simp [intOf]; omega
    · obtain rfl : k = n := by omega
      have e : l.take k = l := List.take_of_length_le (by have := HN.out; omega)
      rw [e] at hj r2
      go_wp2_with fail
      go_ret
      exact ⟨A2, j, c2, rfl, hj.out, r2.out, b2.out⟩
set_option maxRecDepth 100000 in
set_option maxHeartbeats 8000000 in
theorem chosenO_any (y1 y2 : Addr) (p : Ta → Bool) (A : Option Addr) (l : List Ta) (n c : Nat) (w : World) (hn : l.length = n) (h : Lies w A (qvals l)) (hl : n * 72 ≤ 140737488351232)
    (hf : ∀ W, Below w.heap.size w W → ∀ q ∈ l, Calls Try.prog 91 (#[q.val] ++ #[.pointer (some y1), .pointer (some y2)]) W fun e w' => e = .returned (.bool (p q)) ∧ Below W.heap.size W w') :
    Calls Try.prog 70 #[.slice A n c, .func (.func 91) #[] #[.pointer (some y1), .pointer (some y2)]] w (Chos p l w) := by
  have HP := Lib.hid (fun (w' : World) (hb : Below w.heap.size w w') => h.kept hb)
  have HN := Lib.hid hn
  have HF := Lib.hid hf
  have hl9 := hl
  clear h hn hf
  go_enter Try.func70, Try.ntmps70
  go_wp2_with fail
  go_loopw [5, 10] (fun t5 t10 wr => ∃ (k j : Nat) (A2 : Option Addr) (c2 : Nat), k ≤ n ∧ t10 = .int .i64 k ∧ t5 = .slice A2 j c2 ∧ Hid (((l.take k).filter p).length = j) ∧ Hid (Trow wr w.heap.size A2 c2 ((l.take k).filter p)) ∧ Hid (Below w.heap.size w wr)) (fun _ t10 _ => n - (intOf t10).toNat)
  case atStart => exact ⟨0, 0, none, 0, by omega, rfl, rfl, Lib.hid rfl, Lib.hid (Trow.nil _ _), Lib.hid (Below.refl _ _)⟩
  case round =>
    obtain ⟨k, j, A2, c2, hk, rfl, rfl, hj, r2, b2⟩ := hrel
    by_cases hlt : k < n
    · have hq := List.getElem?_eq_getElem (l := l) (i := k) (by have := HN.out; omega)
      generalize l[k]'(by have := HN.out; omega) = x at hq
      obtain ⟨ad, rfl, a0, a1, a2, a3, a4⟩ := lies_table (HP.out _ b2.out) hq
      have HMEM := Lib.hid (List.mem_of_getElem? hq)
      have HST := Lib.hid (filter_step (p := p) hq)
      have HFW := Lib.hid (filter_few p l k)
      obtain ⟨m, hm2⟩ : ∃ m, x.lo.l.length = m := ⟨_, rfl⟩
      obtain ⟨z, hz2⟩ : ∃ z, x.hi.l.length = z := ⟨_, rfl⟩
      rw [hm2] at a3
      rw [hz2] at a4
      have HM2 := Lib.hid (And.intro hm2 hz2)
      have k0 : (k : Int) < n := by omega
      have WS : Hid (w.heap.size ≤ wr.heap.size) := Lib.hid b2.out.size
      clear hq hm2 hz2
      go_upto_region 5 with fail
      obtain ⟨wx, hwx⟩ : ∃ wx, wr.alloc (.cells #[.int .i64 x.i, .int .i64 x.v, .int .i64 x.n, .slice x.lo.a m x.lo.c, .slice x.hi.a z x.hi.c] 108) = wx := ⟨_, rfl⟩
      have HOB : Hid (∀ W, Below wx.heap.size wx W → W.heap[wr.heap.size]? = some (.cells #[.int .i64 x.i, .int .i64 x.v, .int .i64 x.n, .slice x.lo.a m x.lo.c, .slice x.hi.a z x.hi.c] 108 (0, 0))) := Lib.hid (fun W hb => by subst hwx; exact box_table hb)
      have BX : Hid (Below w.heap.size w wx) := Lib.hid (hwx ▸ b2.out.alloc WS.out _)
      have BR : Hid (Below wr.heap.size wr wx) := Lib.hid (hwx ▸ below_new _ _)
      rw [hwx]
      clear hwx a0 a1 a2 a3 a4
      obtain ⟨c0, c1, c2', c3, c4⟩ := box_five (HOB.out wx (Below.refl _ _))
      obtain ⟨b, hb⟩ : ∃ b, p x = b := ⟨_, rfl⟩
      have HFX : Hid (Calls Try.prog 91 (#[.agg #[.int .i64 x.i, .int .i64 x.v, .int .i64 x.n, .slice x.lo.a m x.lo.c, .slice x.hi.a z x.hi.c]] ++ #[.pointer (some y1), .pointer (some y2)]) wx fun e w' => e = .returned (.bool b) ∧ Below wx.heap.size wx w') := Lib.hid (by
        have := HF.out wx BX.out x HMEM.out
        unfold Ta.val at this
        rwa [HM2.out.1, HM2.out.2, hb] at this)
      rw [hb] at HST
      clear hb
      cases b
      · go_wp2_with (go_at_call 91; refine HFX.out.mono ?_; rintro e w6 ⟨rfl, b6⟩; have B6 := Lib.hid b6; clear b6)
        have R6 : Hid (Below wr.heap.size wr w6) := Lib.hid (below_then BR.out B6.out)
        go_roundw
        case rel => exact ⟨k + 1, j, A2, c2, by omega, by go_num, rfl, Lib.hid (by rw [HST.out]; simpa using hj.out), Lib.hid (by rw [HST.out, if_neg (by simp), List.append_nil]; exact r2.out.kept R6.out (Nat.le_refl _)), Lib.hid (below_then b2.out R6.out)⟩
        case measure => simp [intOf]; omega
      · go_upto_region 6 with (go_at_call 91; refine HFX.out.mono ?_; rintro e w6 ⟨rfl, b6⟩; have B6 := Lib.hid b6; clear b6 c0 c1 c2' c3 c4; obtain ⟨c0, c1, c2', c3, c4⟩ := box_five (HOB.out w6 B6.out))
        have R6 : Hid (Below wr.heap.size wr w6) := Lib.hid (below_then BR.out B6.out)
        have W6 : Hid (Below w.heap.size w w6) := Lib.hid (below_then b2.out R6.out)
        go_wp2_with (at_builtin; refine wpList_append_trow _ (by rfl) (.tmp 17) (.tmp 19) (by rfl) w.heap.size A2 c2 ((l.take k).filter p) [x] _ j 1 1 (by first | rfl | (simp [Act.eval]; done)) (by first | rfl | (simp [Act.eval]; done)) hj.out rfl ((r2.out.kept R6.out (Nat.le_refl _)).alloc _) (lit_table _ x.i x.v x.n x.lo.a x.hi.a x.lo.c x.hi.c x.lo.l x.hi.l m z HM2.out.1 HM2.out.2) (by have := W6.out.size; simp; omega) (by have := HFW.out; simp only [List.length_singleton]; omega) ?_; intro A8 c8 w8 r8 b8 g8; have H8 : Hid (Trow w8 w.heap.size A8 c8 ((l.take k).filter p ++ [x]) ∧ Below w.heap.size w w8) := Lib.hid ⟨r8, (W6.out.alloc W6.out.size _).trans b8⟩; clear r8 b8 g8)
        go_roundw
        case rel => exact ⟨k + 1, j + 1, A8, c8, by omega, by go_num, rfl, Lib.hid (by rw [HST.out, if_pos trivial, List.length_append, hj.out]; rfl), Lib.hid (by rw [HST.out, if_pos trivial]; exact H8.out.1), Lib.hid H8.out.2⟩
        case measure => simp [intOf]; omega
    · obtain rfl : k = n := by omega
      have e : l.take k = l := List.take_of_length_le (by have := HN.out; omega)
      rw [e] at hj r2
      go_wp2_with fail
      go_ret
      exact ⟨A2, j, c2, rfl, hj.out, r2.out, b2.out⟩
set_option maxRecDepth 100000 in
set_option maxHeartbeats 8000000 in
theorem chosenB_any (y1 : Addr) (p : Ta → Bool) (A : Option Addr) (l : List Ta) (n c : Nat) (w : World) (hn : l.length = n) (h : Lies w A (qvals l)) (hl : n * 72 ≤ 140737488351232)
    (hf : ∀ W, Below w.heap.size w W → ∀ q ∈ l, Calls Try.prog 85 (#[q.val] ++ #[.pointer (some y1)]) W fun e w' => e = .returned (.bool (p q)) ∧ Below W.heap.size W w') :
    Calls Try.prog 70 #[.slice A n c, .func (.func 85) #[] #[.pointer (some y1)]] w (Chos p l w) := by
  have HP := Lib.hid (fun (w' : World) (hb : Below w.heap.size w w') => h.kept hb)
  have HN := Lib.hid hn
  have HF := Lib.hid hf
  have hl9 := hl
  clear h hn hf
  go_enter Try.func70, Try.ntmps70
  go_wp2_with fail
  go_loopw [5, 10] (fun t5 t10 wr => ∃ (k j : Nat) (A2 : Option Addr) (c2 : Nat), k ≤ n ∧ t10 = .int .i64 k ∧ t5 = .slice A2 j c2 ∧ Hid (((l.take k).filter p).length = j) ∧ Hid (Trow wr w.heap.size A2 c2 ((l.take k).filter p)) ∧ Hid (Below w.heap.size w wr)) (fun _ t10 _ => n - (intOf t10).toNat)
  case atStart => exact ⟨0, 0, none, 0, by omega, rfl, rfl, Lib.hid rfl, Lib.hid (Trow.nil _ _), Lib.hid (Below.refl _ _)⟩
  case round =>
    obtain ⟨k, j, A2, c2, hk, rfl, rfl, hj, r2, b2⟩ := hrel
    by_cases hlt : k < n
    · have hq := List.getElem?_eq_getElem (l := l) (i := k) (by have := HN.out; omega)
      generalize l[k]'(by have := HN.out; omega) = x at hq
      obtain ⟨ad, rfl, a0, a1, a2, a3, a4⟩ := lies_table (HP.out _ b2.out) hq
      have HMEM := Lib.hid (List.mem_of_getElem? hq)
      have HST := Lib.hid (filter_step (p := p) hq)
      have HFW := Lib.hid (filter_few p l k)
      obtain ⟨m, hm2⟩ : ∃ m, x.lo.l.length = m := ⟨_, rfl⟩
      obtain ⟨z, hz2⟩ : ∃ z, x.hi.l.length = z := ⟨_, rfl⟩
      rw [hm2] at a3
      rw [hz2] at a4
      have HM2 := Lib.hid (And.intro hm2 hz2)
      have k0 : (k : Int) < n := by omega
      have WS : Hid (w.heap.size ≤ wr.heap.size) := Lib.hid b2.out.size
      clear hq hm2 hz2
      go_upto_region 5 with fail
      obtain ⟨wx, hwx⟩ : ∃ wx, wr.alloc (.cells #[.int .i64 x.i, .int .i64 x.v, .int .i64 x.n, .slice x.lo.a m x.lo.c, .slice x.hi.a z x.hi.c] 108) = wx := ⟨_, rfl⟩
      have HOB : Hid (∀ W, Below wx.heap.size wx W → W.heap[wr.heap.size]? = some (.cells #[.int .i64 x.i, .int .i64 x.v, .int .i64 x.n, .slice x.lo.a m x.lo.c, .slice x.hi.a z x.hi.c] 108 (0, 0))) := Lib.hid (fun W hb => by subst hwx; exact box_table hb)
      have BX : Hid (Below w.heap.size w wx) := Lib.hid (hwx ▸ b2.out.alloc WS.out _)
      have BR : Hid (Below wr.heap.size wr wx) := Lib.hid (hwx ▸ below_new _ _)
      rw [hwx]
      clear hwx a0 a1 a2 a3 a4
      obtain ⟨c0, c1, c2', c3, c4⟩ := box_five (HOB.out wx (Below.refl _ _))
      obtain ⟨b, hb⟩ : ∃ b, p x = b := ⟨_, rfl⟩
      have HFX : Hid (Calls Try.prog 85 (#[.agg #[.int .i64 x.i, .int .i64 x.v, .int .i64 x.n, .slice x.lo.a m x.lo.c, .slice x.hi.a z x.hi.c]] ++ #[.pointer (some y1)]) wx fun e w' => e = .returned (.bool b) ∧ Below wx.heap.size wx w') := Lib.hid (by
        have := HF.out wx BX.out x HMEM.out
        unfold Ta.val at this
        rwa [HM2.out.1, HM2.out.2, hb] at this)
      rw [hb] at HST
      clear hb
      cases b
      · go_wp2_with (go_at_call 85; refine HFX.out.mono ?_; rintro e w6 ⟨rfl, b6⟩; have B6 := Lib.hid b6; clear b6)
        have R6 : Hid (Below wr.heap.size wr w6) := Lib.hid (below_then BR.out B6.out)
        go_roundw
        case rel => exact ⟨k + 1, j, A2, c2, by omega, by go_num, rfl, Lib.hid (by rw [HST.out]; simpa using hj.out), Lib.hid (by rw [HST.out, if_neg (by simp), List.append_nil]; exact r2.out.kept R6.out (Nat.le_refl _)), Lib.hid (below_then b2.out R6.out)⟩
        case measure => simp [intOf]; omega
      · go_upto_region 6 with (go_at_call 85; refine HFX.out.mono ?_; rintro e w6 ⟨rfl, b6⟩; have B6 := Lib.hid b6; clear b6 c0 c1 c2' c3 c4; obtain ⟨c0, c1, c2', c3, c4⟩ := box_five (HOB.out w6 B6.out))
        have R6 : Hid (Below wr.heap.size wr w6) := Lib.hid (below_then BR.out B6.out)
        have W6 : Hid (Below w.heap.size w w6) := Lib.hid (below_then b2.out R6.out)
        go_wp2_with (at_builtin; refine wpList_append_trow _ (by rfl) (.tmp 17) (.tmp 19) (by rfl) w.heap.size A2 c2 ((l.take k).filter p) [x] _ j 1 1 (by first | rfl | (simp [Act.eval]; done)) (by first | rfl | (simp [Act.eval]; done)) hj.out rfl ((r2.out.kept R6.out (Nat.le_refl _)).alloc _) (lit_table _ x.i x.v x.n x.lo.a x.hi.a x.lo.c x.hi.c x.lo.l x.hi.l m z HM2.out.1 HM2.out.2) (by have := W6.out.size; simp; omega) (by have := HFW.out; simp only [List.length_singleton]; omega) ?_; intro A8 c8 w8 r8 b8 g8; have H8 : Hid (Trow w8 w.heap.size A8 c8 ((l.take k).filter p ++ [x]) ∧ Below w.heap.size w w8) := Lib.hid ⟨r8, (W6.out.alloc W6.out.size _).trans b8⟩; clear r8 b8 g8)
        go_roundw
        case rel => exact ⟨k + 1, j + 1, A8, c8, by omega, by go_num, rfl, Lib.hid (by rw [HST.out, if_pos trivial, List.length_append, hj.out]; rfl), Lib.hid (by rw [HST.out, if_pos trivial]; exact H8.out.1), Lib.hid H8.out.2⟩
        case measure => simp [intOf]; omega
    · obtain rfl : k = n := by omega
      have e : l.take k = l := List.take_of_length_le (by have := HN.out; omega)
      rw [e] at hj r2
      go_wp2_with fail
      go_ret
      exact ⟨A2, j, c2, rfl, hj.out, r2.out, b2.out⟩
end Go.Proofs.Ytcffpkflijpdjaa
namespace Go.Proofs.Ytcffpkflijpdjaa
open Go.RowKit
/-- A node: its entry and its tower. -/
structure Nd where
  e : En
  t : List Nat
def nx (N : List Nd) (h i : Nat) : Nat := match N[i]? with
  | none => 0
  | some q => q.t.getD h 0
def eo (N : List Nd) (i : Nat) : Er := match N[i]? with
  | none => ([], 0, false, [])
  | some q => q.e.rd
theorem nx_of {N : List Nd} {i : Nat} {q : Nd} (h : N[i]? = some q) (j : Nat) : nx N j i = q.t.getD j 0 := by unfold nx; rw [h]
/-- One behind the other, at the lowest height. -/
def Chn (N : List Nd) : Nat → List Nat → Prop
  | p, [] => nx N 0 p = 0
  | p, c :: C => nx N 0 p = c ∧ c ≠ 0 ∧ Chn N c C
structure Skip (N : List Nd) (C : List Nat) : Prop where
  pos : 1 ≤ N.length
  asc : ∀ h i, h < 12 → i < N.length → nx N h i = 0 ∨ (nx N h i < N.length ∧ (i = 0 ∨ ordE (eo N i) (eo N (nx N h i)) < 0))
  chain : Chn N 0 C
  all : ∀ j, j ∈ C ↔ 1 ≤ j ∧ j < N.length
  good : ∀ j, j ∈ C → GoodE (eo N j)
def cont (N : List Nd) (C : List Nat) : List Er := C.map (eo N)
theorem chn_sorted {N : List Nd} (ha : ∀ i, i < N.length → nx N 0 i = 0 ∨ (nx N 0 i < N.length ∧ (i = 0 ∨ ordE (eo N i) (eo N (nx N 0 i)) < 0))) : ∀ (C : List Nat) (p : Nat), p < N.length → Chn N p C → List.Pairwise (fun x y => ordE x y < 0) (cont N C) ∧ (p ≠ 0 → ∀ c ∈ C, ordE (eo N p) (eo N c) < 0)
  | [], _, _, _ => ⟨List.Pairwise.nil, fun _ _ h => by cases h⟩
  | c :: C, p, hp, h => by
    obtain ⟨h1, h2, h3⟩ := h
    have hc : c < N.length := by
      rcases ha p hp with h | ⟨h, -⟩
      · omega
      · omega
    obtain ⟨i1, i2⟩ := chn_sorted ha C c hc h3
    have i3 := i2 h2
    refine ⟨List.pairwise_cons.2 ⟨fun y hy => ?_, i1⟩, fun hp0 z hz => ?_⟩
    · obtain ⟨d, hd, rfl⟩ := List.mem_map.1 hy
      exact i3 d hd
    · have hpc : ordE (eo N p) (eo N c) < 0 := by
        rcases ha p hp with h | ⟨-, h | h⟩
        · omega
        · omega
        · rwa [h1] at h
      rcases List.mem_cons.1 hz with e | e
      · rw [e]; exact hpc
      · exact ordE_trans hpc (i3 z e)
theorem Skip.asc0 {N : List Nd} {C : List Nat} (h : Skip N C) : ∀ i, i < N.length → nx N 0 i = 0 ∨ (nx N 0 i < N.length ∧ (i = 0 ∨ ordE (eo N i) (eo N (nx N 0 i)) < 0)) := fun i hi => h.asc 0 i (by omega) hi
theorem chn_split {N : List Nd} : ∀ {C : List Nat} {p a : Nat}, Chn N p C → a ∈ C → ∃ C1 C2, C = C1 ++ a :: C2 ∧ Chn N a C2
  | c :: C, p, a, h, ha => by
    obtain ⟨h1, h2, h3⟩ := h
    by_cases e : a = c
    · subst e; exact ⟨[], C, rfl, h3⟩
    · obtain ⟨C1, C2, e1, e2⟩ := chn_split h3 ((List.mem_cons.1 ha).resolve_left e)
      exact ⟨c :: C1, C2, by rw [e1]; rfl, e2⟩
/-- The place where an entry belongs. -/
structure Plc (N : List Nd) (C : List Nat) (x : Er) (a : Nat) (C1 C2 : List Nat) : Prop where
  cut : C = C1 ++ C2
  low : ∀ c ∈ C1, ordE (eo N c) x < 0
  high : ∀ c ∈ C2, ¬ ordE (eo N c) x < 0
  last : (C1 = [] ∧ a = 0) ∨ C1.getLast? = some a
  next : Chn N a C2
theorem place {N : List Nd} {C : List Nat} {x : Er} {a : Nat} (h : Skip N C) (ha : a < N.length) (h1 : a = 0 ∨ ordE (eo N a) x < 0) (h2 : nx N 0 a = 0 ∨ ¬ ordE (eo N (nx N 0 a)) x < 0) : ∃ C1 C2, Plc N C x a C1 C2 := by
  have hs := chn_sorted h.asc0 C 0 h.pos h.chain
  have hhigh : ∀ C2, Chn N a C2 → ∀ c ∈ C2, ¬ ordE (eo N c) x < 0 := fun C2 hC c hc => by
    cases C2 with
    | nil => cases hc
    | cons d D =>
      obtain ⟨e1, e2, e3⟩ := hC
      have hd : ¬ ordE (eo N d) x < 0 := by
        rcases h2 with h2 | h2
        · omega
        · rwa [e1] at h2
      rcases List.mem_cons.1 hc with e | e
      · rw [e]; exact hd
      · have hdl : d < N.length := by
          rcases h.asc0 a ha with q | ⟨q, -⟩
          · omega
          · omega
        have := (chn_sorted h.asc0 D d hdl e3).2 e2 c e
        intro hlt
        exact hd (ordE_trans this hlt)
  by_cases h0 : a = 0
  · subst h0
    exact ⟨[], C, rfl, fun c hc => (by cases hc), hhigh C h.chain, .inl ⟨rfl, rfl⟩, h.chain⟩
  · have hx := h1.resolve_left h0
    obtain ⟨C1, C2, e, hc⟩ := chn_split h.chain ((h.all a).2 ⟨by omega, ha⟩)
    refine ⟨C1 ++ [a], C2, by rw [e]; simp, fun c hm => ?_, hhigh C2 hc, .inr (by simp), hc⟩
    rcases List.mem_append.1 hm with hm | hm
    · have hp := hs.1
      rw [e, cont, List.map_append, List.pairwise_append] at hp
      exact ordE_trans (hp.2.2 _ (List.mem_map_of_mem hm) (eo N a) (by simp)) hx
    · rw [List.mem_singleton.1 hm]; exact hx
theorem Plc.map {N : List Nd} {C : List Nat} {x : Er} {a : Nat} {C1 C2 : List Nat} (h : Plc N C x a C1 C2) : cont N C = cont N C1 ++ cont N C2 := by rw [h.cut]; simp [cont]
/-- A tower is turned. -/
def setT (N : List Nd) (i h v : Nat) : List Nd := match N[i]? with
  | none => N
  | some q => N.set i ⟨q.e, q.t.set h v⟩
theorem setT_len (N : List Nd) (i h v : Nat) : (setT N i h v).length = N.length := by unfold setT; split <;> simp
theorem setT_eo (N : List Nd) (i h v j : Nat) : eo (setT N i h v) j = eo N j := by
  unfold setT
  split
  · rfl
  · next q hq =>
    unfold eo
    by_cases e : i = j
    · subst e
      rw [List.getElem?_set_self (List.getElem?_eq_some_iff.1 hq).1, hq]
    · rw [List.getElem?_set_ne e]
def Tall (N : List Nd) : Prop := ∀ q ∈ N, q.t.length = 12
theorem setT_tall {N : List Nd} (hN : Tall N) (i h v : Nat) : Tall (setT N i h v) := fun q hq => by
  unfold setT at hq
  split at hq
  · exact hN q hq
  · next p hp =>
    rcases List.mem_or_eq_of_mem_set hq with e | e
    · exact hN q e
    · rw [e]; simp only [List.length_set]; exact hN p (List.mem_of_getElem? hp)
theorem setT_nx {N : List Nd} (hN : Tall N) {i h v : Nat} (hi : i < N.length) (hh : h < 12) (g j : Nat) : nx (setT N i h v) g j = if j = i ∧ g = h then v else nx N g j := by
  have hq := List.getElem?_eq_getElem hi
  have ht := hN _ (List.getElem_mem hi)
  generalize N[i] = q at hq ht
  unfold setT
  rw [hq]
  unfold nx
  by_cases e : i = j
  · subst e
    simp only [List.getElem?_set_self hi, hq, true_and]
    by_cases e2 : g = h
    · subst e2
      rw [if_pos rfl, List.getD_eq_getElem?_getD, List.getElem?_set_self (by omega)]
      rfl
    · rw [if_neg e2, List.getD_eq_getElem?_getD, List.getElem?_set_ne (fun q => e2 q.symm), ← List.getD_eq_getElem?_getD]
  · simp only [List.getElem?_set_ne e]
    rw [if_neg (fun q => e q.1.symm)]
/-- Some towers are turned, each at its height, to one that comes. -/
def raise (N : List Nd) (la : List Nat) (v : Nat) : Nat → List Nd
  | 0 => N
  | j + 1 => setT (raise N la v j) (la.getD j 0) j v
theorem raise_len (N : List Nd) (la : List Nat) (v j : Nat) : (raise N la v j).length = N.length := by
  induction j with
  | zero => rfl
  | succ j ih => rw [raise, setT_len, ih]
theorem raise_eo (N : List Nd) (la : List Nat) (v j i : Nat) : eo (raise N la v j) i = eo N i := by
  induction j with
  | zero => rfl
  | succ j ih => rw [raise, setT_eo, ih]
theorem raise_tall {N : List Nd} (hN : Tall N) (la : List Nat) (v j : Nat) : Tall (raise N la v j) := by
  induction j with
  | zero => exact hN
  | succ j ih => rw [raise]; exact setT_tall ih _ _ _
theorem raise_nx {N : List Nd} (hN : Tall N) {la : List Nat} {v j : Nat} (hl : ∀ h, h < 12 → la.getD h 0 < N.length) (hj : j ≤ 12) (g i : Nat) : nx (raise N la v j) g i = if g < j ∧ i = la.getD g 0 then v else nx N g i := by
  induction j with
  | zero => rw [if_neg (by omega)]; rfl
  | succ j ih =>
    have ih := ih (by omega)
    rw [raise, setT_nx (raise_tall hN _ _ _) (by rw [raise_len]; exact hl j (by omega)) (by omega), ih]
    by_cases e : i = la.getD j 0 ∧ g = j
    · obtain ⟨e1, e2⟩ := e
      subst e2
      rw [if_pos ⟨e1, rfl⟩, if_pos ⟨by omega, e1⟩]
    · rw [if_neg e]
      by_cases e3 : g < j ∧ i = la.getD g 0
      · rw [if_pos e3, if_pos ⟨by omega, e3.2⟩]
      · rw [if_neg e3, if_neg (fun q => by
          by_cases e4 : g = j
          · subst e4; exact e ⟨q.2, rfl⟩
          · exact e3 ⟨by omega, q.2⟩)]
/-- The tower of what is put. -/
def towerOf (N : List Nd) (la : List Nat) (j : Nat) : List Nat := (List.range 12).map (fun h => if h < j then nx N h (la.getD h 0) else 0)
theorem towerOf_get (N : List Nd) (la : List Nat) (j h : Nat) (hh : h < 12) : (towerOf N la j).getD h 0 = if h < j then nx N h (la.getD h 0) else 0 := by
  unfold towerOf
  rw [List.getD_eq_getElem?_getD, List.getElem?_map, List.getElem?_range hh]
  rfl
theorem towerOf_len (N : List Nd) (la : List Nat) (j : Nat) : (towerOf N la j).length = 12 := by simp [towerOf]
def putN (N : List Nd) (la : List Nat) (j : Nat) (x : En) : List Nd := raise N la N.length j ++ [⟨x, towerOf N la j⟩]
theorem chn_keep {N N' : List Nd} : ∀ {C : List Nat} {p : Nat}, Chn N p C → (∀ i, i = p ∨ i ∈ C → nx N' 0 i = nx N 0 i) → Chn N' p C
  | [], p, h, hk => (hk p (.inl rfl)).trans h
  | c :: C, p, h, hk => ⟨(hk p (.inl rfl)).trans h.1, h.2.1, chn_keep h.2.2 (fun i hi => hk i (.inr (hi.elim (fun e => by rw [e]; exact List.mem_cons_self ..) (List.mem_cons_of_mem _))))⟩
theorem chn_join {N : List Nd} : ∀ {C1 C2 : List Nat} {p a : Nat}, Chn N p (C1 ++ C2) → ((C1 = [] ∧ a = p) ∨ C1.getLast? = some a) → ∀ {N' : List Nd} {D : List Nat}, (∀ i, (i = p ∨ i ∈ C1) → i ≠ a → nx N' 0 i = nx N 0 i) → Chn N' a D → (a ∉ C1.dropLast) → (C1 ≠ [] → a ≠ p) → Chn N' p (C1 ++ D)
  | [], C2, p, a, h, hl, N', D, hk, hD, hn, hp => by
    rcases hl with ⟨-, rfl⟩ | hl
    · exact hD
    · simp at hl
  | c :: C1, C2, p, a, h, hl, N', D, hk, hD, hn, hp => by
    have hl := hl.resolve_left (fun q => by cases q.1)
    obtain ⟨h1, h2, h3⟩ := h
    have hpa : p ≠ a := fun e => hp (by simp) e.symm
    refine ⟨(hk p (.inl rfl) hpa).trans h1, h2, ?_⟩
    cases C1 with
    | nil =>
      simp at hl
      subst hl
      exact hD
    | cons d C1 =>
      rw [List.getLast?_cons_cons] at hl
      have hn' : a ≠ c ∧ a ∉ (d :: C1).dropLast := by
        simp only [List.dropLast_cons_cons, List.mem_cons, not_or] at hn
        exact ⟨hn.1, hn.2⟩
      exact chn_join (C1 := d :: C1) h3 (.inr hl) (fun i hi ha => hk i (.inr (hi.elim (fun e => by rw [e]; exact List.mem_cons_self ..) (List.mem_cons_of_mem _))) ha) hD hn'.2 (fun _ => hn'.1)
end Go.Proofs.Ytcffpkflijpdjaa
namespace Go.Proofs.Ytcffpkflijpdjaa
open Go.RowKit
/-- What is known of the last ones ahead of an entry. -/
def LastOk (N : List Nd) (x : Er) (la : List Nat) : Prop := ∀ h, h < 12 → la.getD h 0 < N.length ∧ (la.getD h 0 = 0 ∨ ordE (eo N (la.getD h 0)) x < 0) ∧ (nx N h (la.getD h 0) = 0 ∨ ¬ ordE (eo N (nx N h (la.getD h 0))) x < 0)
theorem no_equal {N : List Nd} {C C1 C2 : List Nat} {x : Er} {a : Nat} (h : Skip N C) (hp : Plc N C x a C1 C2) (hne : nx N 0 a = 0 ∨ ordE (eo N (nx N 0 a)) x ≠ 0) : ∀ c ∈ C, ordE (eo N c) x ≠ 0 := fun c hc => by
  rw [hp.cut] at hc
  rcases List.mem_append.1 hc with hc | hc
  · have := hp.low c hc; omega
  · have hs := hp.next
    have hhi := hp.high
    cases C2 with
    | nil => cases hc
    | cons d D =>
      obtain ⟨e1, e2, e3⟩ := hs
      have hd : ordE (eo N d) x ≠ 0 := by
        rcases hne with h | h
        · omega
        · rwa [e1] at h
      have hd2 := hhi d (List.mem_cons_self ..)
      rcases List.mem_cons.1 hc with e | e
      · rw [e]; exact hd
      · have hdl : d < N.length := ((h.all d).1 (by rw [hp.cut]; simp)).2
        have h1 := (chn_sorted h.asc0 D d hdl e3).2 e2 c e
        have h2 := ordE_flip (eo N d) x
        have h3 : ordE x (eo N d) < 0 := by omega
        have h4 := ordE_trans h3 h1
        have h5 := ordE_flip (eo N c) x
        omega
theorem putN_len (N : List Nd) (la : List Nat) (j : Nat) (x : En) : (putN N la j x).length = N.length + 1 := by unfold putN; rw [List.length_append, raise_len]; rfl
theorem putN_eo {N : List Nd} {la : List Nat} {j : Nat} {x : En} {i : Nat} (hi : i < N.length) : eo (putN N la j x) i = eo N i := by
  rw [← raise_eo N la N.length j i]
  unfold putN eo
  rw [List.getElem?_append_left (by rw [raise_len]; exact hi)]
theorem putN_eo_new (N : List Nd) (la : List Nat) (j : Nat) (x : En) : eo (putN N la j x) N.length = x.rd := by
  unfold putN eo
  rw [List.getElem?_append_right (by rw [raise_len]; exact Nat.le_refl _), raise_len]
  simp
theorem putN_nx {N : List Nd} {la : List Nat} {j : Nat} {x : En} {i h : Nat} (hN : Tall N) (hl : ∀ h, h < 12 → la.getD h 0 < N.length) (hj : j ≤ 12) (hi : i < N.length) : nx (putN N la j x) h i = if h < j ∧ i = la.getD h 0 then N.length else nx N h i := by
  rw [← raise_nx hN hl hj]
  unfold putN nx
  rw [List.getElem?_append_left (by rw [raise_len]; exact hi)]
theorem putN_nx_new (N : List Nd) (la : List Nat) (j : Nat) (x : En) (h : Nat) (hh : h < 12) : nx (putN N la j x) h N.length = if h < j then nx N h (la.getD h 0) else 0 := by
  rw [← towerOf_get N la j h hh]
  unfold putN nx
  rw [List.getElem?_append_right (by rw [raise_len]; exact Nat.le_refl _), raise_len]
  simp
theorem putN_tall {N : List Nd} (hN : Tall N) (la : List Nat) (j : Nat) (x : En) : Tall (putN N la j x) := fun q hq => by
  rcases List.mem_append.1 hq with e | e
  · exact raise_tall hN _ _ _ q e
  · rw [List.mem_singleton.1 e]; exact towerOf_len N la j
theorem put_skip {N : List Nd} {C la : List Nat} {x : En} {j : Nat} (hN : Tall N) (h : Skip N C) (hl : LastOk N x.rd la) (hne : nx N 0 (la.getD 0 0) = 0 ∨ ordE (eo N (nx N 0 (la.getD 0 0))) x.rd ≠ 0) (h1 : 1 ≤ j) (hj : j ≤ 12) (hg : GoodE x.rd) : ∃ C', Skip (putN N la j x) C' ∧ (cont (putN N la j x) C').Perm (x.rd :: cont N C) := by
  obtain ⟨l1, l2, l3⟩ := hl 0 (by omega)
  obtain ⟨C1, C2, hp⟩ := place h l1 l2 l3
  have hneq := no_equal h hp hne
  have hll : ∀ h, h < 12 → la.getD h 0 < N.length := fun h hh => (hl h hh).1
  obtain ⟨a, ha⟩ : ∃ a, la.getD 0 0 = a := ⟨_, rfl⟩
  rw [ha] at hp l1 l2 l3
  have hin : ∀ c, c ∈ C1 ∨ c ∈ C2 → 1 ≤ c ∧ c < N.length := fun c hc => (h.all c).1 (by rw [hp.cut]; exact List.mem_append.2 hc)
  have ha2 : a ∉ C2 := fun hm => by
    have h2 := hp.high a hm
    rcases l2 with e | e
    · have := (hin a (.inr hm)).1; omega
    · exact h2 e
  have hstep : ∀ i, i < N.length → i ≠ a → nx (putN N la j x) 0 i = nx N 0 i := fun i hi hia => by
    rw [putN_nx hN hll hj hi, if_neg (fun q => hia (q.2.trans ha))]
  have hnew : nx (putN N la j x) 0 N.length = nx N 0 a := by rw [putN_nx_new _ _ _ _ _ (by omega), if_pos (by omega), ha]
  have hchain : Chn (putN N la j x) 0 (C1 ++ N.length :: C2) := by
    refine chn_join (C2 := C2) (by rw [← hp.cut]; exact h.chain) hp.last (fun i hi hia => hstep i ?_ hia) ⟨?_, by have := h.pos; omega, ?_⟩ ?_ ?_
    · rcases hi with e | e
      · rw [e]; exact h.pos
      · exact (hin i (.inl e)).2
    · rw [putN_nx hN hll hj l1, if_pos ⟨by omega, ha.symm⟩]
    · have hnx := hp.next
      cases C2 with
      | nil => exact hnew.trans hnx
      | cons d D =>
        obtain ⟨e1, e2, e3⟩ := hnx
        exact ⟨hnew.trans e1, e2, chn_keep e3 (fun i hi => hstep i (hin i (.inr (by rcases hi with e | e <;> simp [e]))).2 (fun e => ha2 (by subst e; rcases hi with e | e <;> simp [e])))⟩
    · intro hm
      rcases hp.last with ⟨e, -⟩ | e
      · subst e; cases hm
      · obtain ⟨D, rfl⟩ := List.getLast?_eq_some_iff.1 e
        rw [List.dropLast_concat] at hm
        have hs := (chn_sorted h.asc0 C 0 h.pos h.chain).1
        rw [hp.cut, cont, List.map_append, List.map_append, List.append_assoc, List.pairwise_append] at hs
        have := hs.2.2 _ (List.mem_map_of_mem hm) (eo N a) (by simp)
        rw [ordE_self] at this
        omega
    · intro hc
      rcases hp.last with ⟨e, -⟩ | e
      · exact absurd e hc
      · have := (hin a (.inl (List.mem_of_getLast? e))).1
        omega
  refine ⟨C1 ++ N.length :: C2, ⟨by rw [putN_len]; omega, fun g i hg12 hi => ?_, hchain, fun k => ?_, fun k hk => ?_⟩, ?_⟩
  · rw [putN_len] at hi ⊢
    by_cases hin' : i = N.length
    · subst hin'
      rw [putN_nx_new _ _ _ _ _ hg12]
      by_cases hgj : g < j
      · rw [if_pos hgj]
        obtain ⟨m1, m2, m3⟩ := hl g hg12
        rcases h.asc g _ hg12 m1 with q | ⟨q, -⟩
        · exact .inl q
        · by_cases q0 : nx N g (la.getD g 0) = 0
          · exact .inl q0
          · refine .inr ⟨by omega, .inr ?_⟩
            rw [putN_eo_new, putN_eo q]
            have e1 := m3.resolve_left q0
            have e2 := hneq _ ((h.all _).2 ⟨by omega, q⟩)
            have e3 := ordE_flip (eo N (nx N g (la.getD g 0))) x.rd
            omega
      · rw [if_neg hgj]; exact .inl rfl
    · have hi' : i < N.length := by omega
      rw [putN_nx hN hll hj hi']
      by_cases hc : g < j ∧ i = la.getD g 0
      · rw [if_pos hc]
        refine .inr ⟨by omega, ?_⟩
        rw [putN_eo_new, putN_eo hi', hc.2]
        exact (hl g hg12).2.1
      · rw [if_neg hc]
        rcases h.asc g i hg12 hi' with q | ⟨q1, q2⟩
        · exact .inl q
        · exact .inr ⟨by omega, by rw [putN_eo hi', putN_eo q1]; exact q2⟩
  · rw [putN_len]
    constructor
    · intro hk
      rcases List.mem_append.1 hk with e | e
      · have := hin k (.inl e); omega
      · rcases List.mem_cons.1 e with e | e
        · have := h.pos; omega
        · have := hin k (.inr e); omega
    · rintro ⟨k1, k2⟩
      by_cases e : k = N.length
      · subst e; simp
      · have := (h.all k).2 ⟨k1, by omega⟩
        rw [hp.cut] at this
        rcases List.mem_append.1 this with e | e
        · exact List.mem_append_left _ e
        · exact List.mem_append_right _ (List.mem_cons_of_mem _ e)
  · rcases List.mem_append.1 hk with e | e
    · rw [putN_eo (hin k (.inl e)).2]; exact h.good k (by rw [hp.cut]; exact List.mem_append_left _ e)
    · rcases List.mem_cons.1 e with e | e
      · rw [e, putN_eo_new]; exact hg
      · rw [putN_eo (hin k (.inr e)).2]; exact h.good k (by rw [hp.cut]; exact List.mem_append_right _ e)
  · have e1 : cont (putN N la j x) C1 = cont N C1 := List.map_congr_left (fun c hc => putN_eo (hin c (.inl hc)).2)
    have e2 : cont (putN N la j x) C2 = cont N C2 := List.map_congr_left (fun c hc => putN_eo (hin c (.inr hc)).2)
    have e3 : cont (putN N la j x) (C1 ++ N.length :: C2) = cont N C1 ++ x.rd :: cont N C2 := by
      rw [← e1, ← e2]
      unfold cont
      rw [List.map_append, List.map_cons, putN_eo_new]
    rw [e3, hp.map]
    exact List.perm_middle
end Go.Proofs.Ytcffpkflijpdjaa
namespace Go.Proofs.Ytcffpkflijpdjaa
open Go.RowKit
/-- A tower's cells. -/
def tvals (t : List Nat) : List Value := (List.range 12).map (fun h => .int .i64 ((t.getD h 0 : Nat) : Int))
theorem tvals_len (t : List Nat) : (tvals t).length = 12 := by simp [tvals]
theorem tvals_get (t : List Nat) {h : Nat} (hh : h < 12) : (tvals t)[h]? = some (.int .i64 ((t.getD h 0 : Nat) : Int)) := by
  unfold tvals
  rw [List.getElem?_map, List.getElem?_range hh]
  rfl
theorem tvals_set {t : List Nat} (ht : t.length = 12) {h : Nat} (hh : h < 12) (v : Nat) : (tvals t).set h (.int .i64 (v : Int)) = tvals (t.set h v) := by
  refine List.ext_getElem? (fun j => ?_)
  by_cases hj : j < 12
  · rw [tvals_get _ hj]
    by_cases e : h = j
    · subst e
      rw [List.getElem?_set_self (by rw [tvals_len]; exact hj), List.getD_eq_getElem?_getD, List.getElem?_set_self (by omega)]
      rfl
    · rw [List.getElem?_set_ne e, tvals_get _ hj, List.getD_eq_getElem?_getD, List.getD_eq_getElem?_getD, List.getElem?_set_ne e]
  · rw [List.getElem?_eq_none (by rw [List.length_set, tvals_len]; omega), List.getElem?_eq_none (by rw [tvals_len]; omega)]
def Nd.cells (q : Nd) : List Value := q.e.cells ++ tvals q.t
theorem Nd.cells_len (q : Nd) : q.cells.length = 16 := by unfold Nd.cells; rw [List.length_append, tvals_len]; rfl
def nvals (N : List Nd) : List Value := N.flatMap Nd.cells
theorem nvals_get : ∀ (N : List Nd) (i : Nat) (q : Nd), N[i]? = some q → ∀ j, j < 16 → (nvals N)[i * 16 + j]? = q.cells[j]?
  | [], _, _, h, _, _ => by simp at h
  | p :: N, 0, q, h, j, hj => by
    simp at h
    subst h
    unfold nvals
    rw [List.flatMap_cons, List.getElem?_append_left (by rw [Nd.cells_len]; omega), Nat.zero_mul, Nat.zero_add]
  | p :: N, i + 1, q, h, j, hj => by
    have ih := nvals_get N i q (by simpa using h) j hj
    unfold nvals at ih ⊢
    rw [List.flatMap_cons, List.getElem?_append_right (by rw [Nd.cells_len]; omega), Nd.cells_len, ← ih]
    congr 1
    omega
theorem nvals_set : ∀ (N : List Nd) (i : Nat) (p q : Nd) (j : Nat) (v : Value), N[i]? = some p → j < 16 → p.cells.set j v = q.cells → (nvals N).set (i * 16 + j) v = nvals (N.set i q)
  | [], _, _, _, _, _, h, _, _ => by simp at h
  | x :: N, 0, p, q, j, v, h, hj, he => by
    simp at h
    subst h
    unfold nvals
    rw [List.set_cons_zero, List.flatMap_cons, List.flatMap_cons, Nat.zero_mul, Nat.zero_add, List.set_append_left _ _ (by rw [Nd.cells_len]; omega), he]
  | x :: N, i + 1, p, q, j, v, h, hj, he => by
    have ih := nvals_set N i p q j v (by simpa using h) hj he
    unfold nvals at ih ⊢
    rw [List.set_cons_succ, List.flatMap_cons, List.flatMap_cons, List.set_append_right _ _ (by rw [Nd.cells_len]; omega), Nd.cells_len, ← ih]
    congr 2
    omega
/-- The cells of one node, as a walk spells them. -/
def AtN (w : World) (E : Addr) (q : Nd) : Prop := AtE w E q.e ∧ ∀ h, h < 12 → w.cell? ⟨E.block, E.off + 4 + h, none⟩ = some (.int .i64 ((q.t.getD h 0 : Nat) : Int))
theorem lies_node {w : World} {A : Option Addr} {N : List Nd} {i : Nat} {q : Nd} (h : Lies w A (nvals N)) (hq : N[i]? = some q) : ∃ ad, A = some ad ∧ AtN w (ad.add (i * 16)) q := by
  have hg := nvals_get N i q hq
  have g0 : (nvals N)[i * 16]? = some q.e.k.val := by have := hg 0 (by omega); simpa [Nd.cells, En.cells] using this
  have g1 : (nvals N)[i * 16 + 1]? = some (.int .i64 q.e.s) := by have := hg 1 (by omega); simpa [Nd.cells, En.cells] using this
  have g2 : (nvals N)[i * 16 + 2]? = some (.bool q.e.d) := by have := hg 2 (by omega); simpa [Nd.cells, En.cells] using this
  have g3 : (nvals N)[i * 16 + 3]? = some q.e.v.val := by have := hg 3 (by omega); simpa [Nd.cells, En.cells] using this
  have g4 : ∀ h, h < 12 → (nvals N)[i * 16 + (4 + h)]? = some (.int .i64 ((q.t.getD h 0 : Nat) : Int)) := fun h hh => by
    rw [hg (4 + h) (by omega)]
    unfold Nd.cells
    rw [List.getElem?_append_right (by simp [En.cells])]
    have : 4 + h - q.e.cells.length = h := by simp [En.cells]
    rw [this, tvals_get _ hh]
  rcases h with h | ⟨ad, rfl, h2⟩
  · rw [h] at g0
    simp at g0
  · refine ⟨ad, rfl, ⟨?_, ?_, ?_, ?_⟩, fun h hh => ?_⟩
    · simpa [Sl.val] using h2 _ _ g0
    · have := h2 _ _ g1
      rw [← add_add] at this
      simpa [Addr.add, Sl.val] using this
    · have := h2 _ _ g2
      rw [← add_add] at this
      simpa [Addr.add, Sl.val] using this
    · have := h2 _ _ g3
      rw [← add_add] at this
      simpa [Addr.add, Sl.val] using this
    · have := h2 _ _ (g4 h hh)
      rw [← add_add] at this
      have e : (ad.add (i * 16)).add (4 + h) = ⟨(ad.add (i * 16)).block, (ad.add (i * 16)).off + (4 + h), none⟩ := by
        unfold Addr.add
        rw [if_neg (by omega)]
      rw [e] at this
      rwa [Nat.add_assoc]
theorem lies_node_at {w : World} {ad : Addr} {N : List Nd} {i : Nat} {q : Nd} (h : Lies w (some ad) (nvals N)) (hq : N[i]? = some q) : AtN w (ad.add (i * 16)) q := by
  obtain ⟨ad', e, h'⟩ := lies_node h hq
  injection e with e
  subst e
  exact h'
/-- A row of nodes of the table's own. -/
def Nrow (w : World) (B : Nat) (A : Option Addr) (c : Nat) (N : List Nd) : Prop := w.ownsRow B 93 16 (.slice A N.length c) N.length (nvals N)
theorem Nrow.lies {w : World} {B : Nat} {A : Option Addr} {c : Nat} {N : List Nd} (h : Nrow w B A c N) : Lies w A (nvals N) := by
  rcases h.2 with ⟨_, h⟩ | ⟨g, cap, cur, e, _⟩
  · exact .inl (by rw [List.eq_nil_of_length_eq_zero h]; rfl)
  · injection e with e1 e2 e3
    subst e1
    exact .inr ⟨_, rfl, fun j u hu => World.ownsRow.cells h (g := g) rfl j u hu⟩
theorem Nrow.place {w : World} {B : Nat} {A : Option Addr} {c : Nat} {N : List Nd} (h : Nrow w B A c N) (h0 : 1 ≤ N.length) : ∃ g, A = some ⟨g, 0, none⟩ ∧ B ≤ g ∧ g < w.heap.size ∧ ∃ cs, w.heap[g]? = some (.cells cs 93 (0, 0)) := by
  rcases h.2 with ⟨_, h⟩ | ⟨g, cap, cur, e, h1, h2, _⟩
  · omega
  · injection e with e1 e2 e3
    exact ⟨g, e1, h1, (Array.getElem?_eq_some_iff.1 h2).1, _, h2⟩
theorem Nrow.turn {w : World} {B : Nat} {A : Option Addr} {c g i h : Nat} {N : List Nd} (hr : Nrow w B A c N) (hA : A = some ⟨g, 0, none⟩) (hN : Tall N) (hi : i < N.length) (hh : h < 12) : (∃ u, w.cell? ⟨g, i * 16 + (4 + h), none⟩ = some u) ∧ w.frozen? ⟨g, i * 16 + (4 + h), none⟩ = false ∧ ∀ v : Nat, Nrow (w.setCell ⟨g, i * 16 + (4 + h), none⟩ (.int .i64 (v : Int))) B A c (setT N i h v) := by
  subst hA
  have hq := List.getElem?_eq_getElem hi
  have ht := hN _ (List.getElem_mem hi)
  generalize N[i] = q at hq ht
  have hr' := hr
  unfold Nrow at hr'
  refine ⟨?_, hr'.frozenAt _, fun v => ?_⟩
  · rw [hr'.cellAt _ (by omega)]
    rw [nvals_get N i q hq (4 + h) (by omega)]
    exact ⟨_, List.getElem?_eq_getElem (by rw [Nd.cells_len]; omega)⟩
  · have := (hr'.stored (i * 16 + (4 + h)) (.int .i64 (v : Int))).1
    unfold Nrow
    rw [setT_len]
    have e : setT N i h v = N.set i ⟨q.e, q.t.set h v⟩ := by unfold setT; rw [hq]
    rw [nvals_set N i q ⟨q.e, q.t.set h v⟩ (4 + h) _ hq (by omega) (by
      unfold Nd.cells
      rw [List.set_append_right _ _ (by simp [En.cells])]
      have : 4 + h - q.e.cells.length = h := by simp [En.cells]
      rw [this, tvals_set ht hh]), ← e] at this
    exact this
/-- Numbers, as they lie. -/
def ivals (L : List Int) : List Value := L.map (fun x => .int .i64 x)
theorem ivals_len (L : List Int) : (ivals L).length = L.length := by simp [ivals]
theorem ivals_one {L : List Int} : ∀ u ∈ ivals L, u.oneCell' = true := fun u hu => by
  obtain ⟨x, -, rfl⟩ := List.mem_map.1 hu
  rfl
def Irow (w : World) (B : Nat) (A : Option Addr) (c : Nat) (L : List Int) : Prop := w.ownsRow B 3 1 (.slice A L.length c) L.length (ivals L)
theorem Irow.nil (w : World) (B : Nat) : Irow w B none 0 [] := World.ownsRow_nil w B _ _
theorem Irow.lies {w : World} {B : Nat} {A : Option Addr} {c : Nat} {L : List Int} (h : Irow w B A c L) : Lies w A (ivals L) := by
  rcases h.2 with ⟨_, h⟩ | ⟨g, cap, cur, e, _⟩
  · exact .inl (by rw [List.eq_nil_of_length_eq_zero h]; rfl)
  · injection e with e1 e2 e3
    subst e1
    exact .inr ⟨_, rfl, fun j u hu => World.ownsRow.cells h (g := g) rfl j u hu⟩
end Go.Proofs.Ytcffpkflijpdjaa
namespace Go.Proofs.Ytcffpkflijpdjaa
open Go.RowKit
/-- A table: where it lies, its heights, its nodes, and the way through them. -/
structure MT where
  b : Nat
  hA : Option Addr
  hc : Nat
  hs : List Int
  nA : Option Addr
  nc : Nat
  ns : List Nd
  cs : List Nat
/-- The blocks that are the table's. -/
def MT.own (t : MT) (g : Nat) : Prop := g = t.b ∨ SlB t.hA g ∨ SlB t.nA g ∨ ∃ q ∈ t.ns, SlB q.e.k.a g ∨ SlB q.e.v.a g
/-- What the table holds. -/
def MT.has (t : MT) : List Er := cont t.ns t.cs
structure MTab (w : World) (t : MT) : Prop where
  obj : w.heap[t.b]? = some (.cells #[.slice t.hA t.hs.length t.hc, .slice t.nA t.ns.length t.nc] 96 (0, 0))
  hrow : Irow w 0 t.hA t.hc t.hs
  nrow : Nrow w 0 t.nA t.nc t.ns
  made : ∀ q ∈ t.ns, Row w 0 q.e.k.a q.e.k.c q.e.k.l ∧ Row w 0 q.e.v.a q.e.v.c q.e.v.l ∧ ErB q.e.rd
  tall : Tall t.ns
  skip : Skip t.ns t.cs
theorem own_same {w w' : World} {B : Nat} {e : TypeId} {size : Nat} {A : Option Addr} {n c m : Nat} {xs : List Value} (h : w.ownsRow B e size (.slice A n c) m xs) (hs : ∀ g, SlB A g → w'.heap[g]? = w.heap[g]?) : w'.ownsRow B e size (.slice A n c) m xs := by
  refine ⟨h.1, ?_⟩
  rcases h.2 with hn | ⟨g, cap, cur, e1, h1, h2, h3⟩
  · exact .inl hn
  · injection e1 with e1 e2 e3
    subst e1 e2 e3
    exact .inr ⟨g, c, cur, rfl, h1, (hs g ⟨_, rfl, rfl⟩).trans h2, h3⟩
theorem MTab.same {w w' : World} {t : MT} (h : MTab w t) (hs : ∀ g, t.own g → w'.heap[g]? = w.heap[g]?) : MTab w' t :=
  ⟨(hs _ (.inl rfl)).trans h.obj, own_same h.hrow (fun g hg => hs g (.inr (.inl hg))), own_same h.nrow (fun g hg => hs g (.inr (.inr (.inl hg)))), fun q hq => ⟨own_same (h.made q hq).1 (fun g hg => hs g (.inr (.inr (.inr ⟨q, hq, .inl hg⟩)))), own_same (h.made q hq).2.1 (fun g hg => hs g (.inr (.inr (.inr ⟨q, hq, .inr hg⟩)))), (h.made q hq).2.2⟩, h.tall, h.skip⟩
theorem MTab.in_ {w : World} {t : MT} (h : MTab w t) : ∀ g, t.own g → g < w.heap.size := fun g hg => by
  rcases hg with rfl | ⟨ad, e, rfl⟩ | ⟨ad, e, rfl⟩ | ⟨q, hq, ⟨ad, e, rfl⟩ | ⟨ad, e, rfl⟩⟩
  · exact (Array.getElem?_eq_some_iff.1 h.obj).1
  · exact (own_in h.hrow ad e).2
  · exact (own_in h.nrow ad e).2
  · exact (own_in (h.made q hq).1 ad e).2
  · exact (own_in (h.made q hq).2.1 ad e).2
theorem MTab.kept {w w' : World} {t : MT} (h : MTab w t) (hb : Below w.heap.size w w') : MTab w' t := h.same (fun g hg => hb.block g (h.in_ g hg))
theorem MTab.cells {w : World} {t : MT} (h : MTab w t) : w.cell? ⟨t.b, 0, none⟩ = some (.slice t.hA t.hs.length t.hc) ∧ w.cell? ⟨t.b, 1, none⟩ = some (.slice t.nA t.ns.length t.nc) := by
  refine ⟨?_, ?_⟩ <;> simp [World.cell?, h.obj]
end Go.Proofs.Ytcffpkflijpdjaa
namespace Go.Proofs.Ytcffpkflijpdjaa
open Go.RowKit
def zeros12 : Array Value := #[.int .i64 0, .int .i64 0, .int .i64 0, .int .i64 0, .int .i64 0, .int .i64 0, .int .i64 0, .int .i64 0, .int .i64 0, .int .i64 0, .int .i64 0, .int .i64 0]
/-- While the ways are gone: the entry's box, the answer's, and what has been found. -/
structure AhS (w W : World) (z : Nat) (cs : Array Value) (la : List Nat) : Prop where
  bel : Below w.heap.size w W
  box : W.heap[z]? = some (.cells cs 26 (0, 0))
  res : W.heap[z + 1]? = some (.cells zeros12 91 (0, 0))
  last : W.heap[z + 1 + 1]? = some (.cells (tvals la).toArray 91 (0, 0))
theorem AhS.kept {w W W' : World} {z : Nat} {cs : Array Value} {la : List Nat} (h : AhS w W z cs la) (hb : Below W.heap.size W W') : AhS w W' z cs la :=
  ⟨h.bel.trans (hb.mono h.bel.size), obj_kept h.box hb (Nat.le_refl _), obj_kept h.res hb (Nat.le_refl _), obj_kept h.last hb (Nat.le_refl _)⟩
/-- What is known of them from a height on. -/
def LastFrom (N : List Nd) (x : Er) (la : List Nat) (k : Nat) : Prop := ∀ h, k ≤ h → h < 12 → la.getD h 0 < N.length ∧ (la.getD h 0 = 0 ∨ ordE (eo N (la.getD h 0)) x < 0) ∧ (nx N h (la.getD h 0) = 0 ∨ ¬ ordE (eo N (nx N h (la.getD h 0))) x < 0)
theorem LastFrom.step {N : List Nd} {x : Er} {la : List Nat} {k a : Nat} (h : LastFrom N x la (k + 1)) (hl : la.length = 12) (hk : k < 12) (h1 : a < N.length) (h2 : a = 0 ∨ ordE (eo N a) x < 0) (h3 : nx N k a = 0 ∨ ¬ ordE (eo N (nx N k a)) x < 0) : LastFrom N x (la.set k a) k := fun g hg hg12 => by
  by_cases e : k = g
  · subst e
    have : (la.set k a).getD k 0 = a := by rw [List.getD_eq_getElem?_getD, List.getElem?_set_self (by omega)]; rfl
    rw [this]
    exact ⟨h1, h2, h3⟩
  · have : (la.set k a).getD g 0 = la.getD g 0 := by rw [List.getD_eq_getElem?_getD, List.getElem?_set_ne e, ← List.getD_eq_getElem?_getD]
    rw [this]
    exact h g (by omega) hg12
end Go.Proofs.Ytcffpkflijpdjaa
