/-
  Memory: rows of the call's own, nil let in: of bytes, of parts; append onto them.
-/
import Derived.Test.YtaedhedbmbmdoaaMemP
namespace Go.Proofs.Ytaedhedbmbmdoaa
open Go.RowKit

/-- Values, as they lie at an address. -/
def Lies (w : World) (C : Option Addr) (xs : List Value) : Prop := xs = [] ∨ ∃ ad, C = some ad ∧ ∀ j u, xs[j]? = some u → w.cell? (ad.add j) = some u
theorem Bys.lies {w : World} {A : Option Addr} {L : List Int} (h : Bys w A L) : Lies w A (vals L) := by
  rcases h with rfl | ⟨ad, rfl, h⟩
  · exact .inl rfl
  · refine .inr ⟨ad, rfl, fun j u hu => ?_⟩
    obtain ⟨x, hx, rfl⟩ := vals_get hu
    exact h j x hx
theorem Pts.lies {w : World} {A : Option Addr} {l : List Qt} (h : Pts w A l) : Lies w A (pvals l) := by
  rcases h with rfl | h
  · exact .inl rfl
  · exact .inr h

/-- An append, whatever the elements: the row is nil or the call's own, the source may be nil. -/
theorem run_append_lies (w : World) (t ty e : TypeId) (i : TypeInfo) (z : Value) (size bytes : Nat) (ht : Try.prog.underlying t = some (.slice e)) (hi : Try.prog.info? e = some i) (hz : i.zero = some z)
    (hsize : i.size = size) (hby : i.bytes = bytes) (hzs : z.cells.size = size) (hsz : 0 < size)
    (B : Nat) (A : Option Addr) (n c : Nat) (xs : List Value) (hown : w.ownsRow B e size (.slice A n c) n xs)
    (C : Option Addr) (m cm : Nat) (news : List Value) (hl : news.length = m * size) (hnews : Lies w C news) (h1 : ∀ u ∈ news, u.oneCell' = true)
    (h63 : n + m ≤ maxLen) (hbytes : (n + m) * bytes ≤ 140737488355328) (hB : B ≤ w.heap.size) :
    ∃ A' c' w', (Builtin.append_ #[t, t] ty #[.slice A n c, .slice C m cm]).run Try.prog w = .ok (.slice A' (n + m) c') w' ∧ w'.ownsRow B e size (.slice A' (n + m) c') (n + m) (xs ++ news) ∧ Below B w w' := by
  have key : ∀ (v' : Value) (w' : World), w'.ownsRow B e size v' (n + m) (xs ++ news) → ∃ A' c', v' = .slice A' (n + m) c' := fun v' w' h => by
    rcases h.2 with ⟨rfl, he⟩ | ⟨g, cap, cur, rfl, _⟩
    · exact ⟨none, 0, by rw [he]⟩
    · exact ⟨_, _, rfl⟩
  by_cases hne : news = []
  · have hm : m = 0 := by
      subst hne
      simp only [List.length_nil] at hl
      rcases Nat.eq_zero_or_pos m with h | h
      · exact h
      · have := Nat.mul_pos h hsz
        omega
    subst hm
    subst hne
    refine ⟨A, c, w, ?_, by simpa using hown, Below.refl _ _⟩
    rcases hown.2 with ⟨h, _⟩ | ⟨g, cap, cur, h, _, _, hnc, _⟩
    · injection h with h2 h3 h4
      subst h2
      subst h3
      subst h4
      cases C <;> simp [Builtin.append_, run_underlying ht, sizeOf, typeInfo, hi, Builtin.lenOf, Builtin.firstCells, loadCells, loadCellsFrom]
    · injection h with h2 h3 h4
      subst h2
      subst h4
      cases C <;> simp [Builtin.append_, run_underlying ht, sizeOf, typeInfo, hi, Builtin.lenOf, Builtin.firstCells, loadCells, loadCellsFrom, storeCells, hnc]
  · obtain ⟨ad, rfl, hc⟩ := hnews.resolve_left hne
    obtain ⟨v', w', r, h2, h3, _⟩ := run_append_own (P := Try.prog) w B t ty e i z size bytes ht hi hz hsize hby hzs hsz _ n xs hown ad m cm news hl hc h1 h63 hbytes hB
    obtain ⟨A', c', rfl⟩ := key v' w' h2
    refine ⟨A', c', w', r, h2, (Below.refl B w).grown h3 hB fun k hk => (hown.lt k hk).1⟩

/-- A row of bytes of the call's own, or nil. -/
def Row (w : World) (B : Nat) (A : Option Addr) (c : Nat) (L : List Int) : Prop := w.ownsRow B 5 1 (.slice A L.length c) L.length (vals L)
/-- A row of parts of the call's own, or nil. -/
def Prow (w : World) (B : Nat) (A : Option Addr) (c : Nat) (l : List Qt) : Prop := w.ownsRow B 41 3 (.slice A l.length c) l.length (pvals l)

theorem Row.nil (w : World) (B : Nat) : Row w B none 0 [] := World.ownsRow_nil w B _ _
theorem Prow.nil (w : World) (B : Nat) : Prow w B none 0 [] := World.ownsRow_nil w B _ _
theorem Mine.row {w : World} {B g c : Nat} {L : List Int} (h : Mine w B g c L) : Row w B (some ⟨g, 0, none⟩) c L := h
theorem Row.lies {w : World} {B : Nat} {A : Option Addr} {c : Nat} {L : List Int} (h : Row w B A c L) : Bys w A L := by
  rcases h.2 with ⟨_, h⟩ | ⟨g, cap, cur, e, _⟩
  · exact .inl (List.eq_nil_of_length_eq_zero h)
  · injection e with e1 e2 e3
    subst e1
    refine .inr ⟨_, rfl, fun j x hx => World.ownsRow.cells h (g := g) rfl j _ (vals_of hx)⟩
theorem Prow.lies {w : World} {B : Nat} {A : Option Addr} {c : Nat} {l : List Qt} (h : Prow w B A c l) : Pts w A l := by
  rcases h.2 with ⟨_, h⟩ | ⟨g, cap, cur, e, _⟩
  · exact .inl (List.eq_nil_of_length_eq_zero h)
  · injection e with e1 e2 e3
    subst e1
    exact .inr ⟨_, rfl, fun j u hu => World.ownsRow.cells h (g := g) rfl j u hu⟩
theorem own_cap {w : World} {B : Nat} {e : TypeId} {size : Nat} {A : Option Addr} {n c : Nat} {xs : List Value} (h : w.ownsRow B e size (.slice A n c) n xs) : n ≤ c ∧ (c : Int) ≤ 9223372036854775807 := by
  rcases h.2 with ⟨e, _⟩ | ⟨g, cap, cur, e, h1, h2, h3, h4, _⟩
  · injection e with e1 e2 e3
    subst e2
    subst e3
    omega
  · injection e with e1 e2 e3
    subst e3
    unfold maxLen at h4
    omega
theorem own_kept {w w' : World} {B C : Nat} {e : TypeId} {size : Nat} {v : Value} {n : Nat} {xs : List Value} (h : w.ownsRow B e size v n xs) (hb : Below C w w') (hC : w.heap.size ≤ C) : w'.ownsRow B e size v n xs := by
  refine ⟨h.1, ?_⟩
  rcases h.2 with hn | ⟨g, cap, cur, e1, h1, h2, h3⟩
  · exact .inl hn
  · refine .inr ⟨g, cap, cur, e1, h1, ?_, h3⟩
    have hg : g < w.heap.size := (Array.getElem?_eq_some_iff.1 h2).1
    rw [hb.block g (by omega), h2]
theorem own_mono {w : World} {B C : Nat} {e : TypeId} {size : Nat} {v : Value} {n : Nat} {xs : List Value} (h : w.ownsRow B e size v n xs) (hC : C ≤ B) : w.ownsRow C e size v n xs := by
  refine ⟨h.1, ?_⟩
  rcases h.2 with hn | ⟨g, cap, cur, e1, h1, h2, h3⟩
  · exact .inl hn
  · exact .inr ⟨g, cap, cur, e1, by omega, h2, h3⟩
theorem Row.kept {w w' : World} {B C : Nat} {A : Option Addr} {c : Nat} {L : List Int} (h : Row w B A c L) (hb : Below C w w') (hC : w.heap.size ≤ C) : Row w' B A c L := own_kept h hb hC
theorem Row.mono {w : World} {B C : Nat} {A : Option Addr} {c : Nat} {L : List Int} (h : Row w B A c L) (hC : C ≤ B) : Row w C A c L := own_mono h hC
theorem Row.alloc {w : World} {B : Nat} {A : Option Addr} {c : Nat} {L : List Int} (h : Row w B A c L) (o : Obj) : Row (w.alloc o) B A c L := h.kept (below_new w o) (Nat.le_refl _)
theorem Prow.kept {w w' : World} {B C : Nat} {A : Option Addr} {c : Nat} {l : List Qt} (h : Prow w B A c l) (hb : Below C w w') (hC : w.heap.size ≤ C) : Prow w' B A c l := own_kept h hb hC
theorem Prow.mono {w : World} {B C : Nat} {A : Option Addr} {c : Nat} {l : List Qt} (h : Prow w B A c l) (hC : C ≤ B) : Prow w C A c l := own_mono h hC
theorem Prow.alloc {w : World} {B : Nat} {A : Option Addr} {c : Nat} {l : List Qt} (h : Prow w B A c l) (o : Obj) : Prow (w.alloc o) B A c l := h.kept (below_new w o) (Nat.le_refl _)

theorem row_made (w : World) (B : Nat) (L : List Int) (cs : Array Value) (e : cs = (vals L).toArray) (hl : L.length ≤ 9) (hB : B ≤ w.heap.size) : Row (w.alloc (.cells cs 5)) B (some ⟨w.heap.size, 0, none⟩) L.length L :=
  ((mine_new w L cs e (by unfold maxLen; omega)).mono hB).row
theorem prow_made (w : World) (B : Nat) (l : List Qt) (cs : Array Value) (e : cs = (pvals l).toArray) (hl : l.length ≤ 9) (hB : B ≤ w.heap.size) : Prow (w.alloc (.cells cs 41)) B (some ⟨w.heap.size, 0, none⟩) l.length l := by
  subst e
  refine ⟨pvals_len l, .inr ⟨w.heap.size, l.length, (pvals l).toArray, rfl, hB, heap_alloc_new w _, Nat.le_refl _, by unfold maxLen; omega, by simp [pvals_len], ?_⟩⟩
  show (pvals l).take (l.length * 3) = pvals l
  rw [← pvals_len l]
  exact List.take_length

theorem wpList_append_row (w : World) {ops : Array Oper} {rest : List Oper} {o : Oper} {a : Act} {Q : Exit → Act → World → Prop} (hgd : o.guard = none) (s x : Operand)
    (ho : o.op = .call { callee := .builtin .append, args := #[s, x], argTypes := #[24, 24] })
    (B : Nat) (A : Option Addr) (c : Nat) (L M : List Int) (C : Option Addr) (n m cm : Nat) (hs : a.eval s = .slice A n c) (hx : a.eval x = .slice C m cm) (en : L.length = n) (em : M.length = m) (h : Row w B A c L) (hm : Bys w C M) (hB : B ≤ w.heap.size) (hr : L.length + M.length ≤ 140737488355328)
    (k : ∀ A' c' w', Row w' B A' c' (L ++ M) → Below B w w' → wpList Try.prog ops Q rest (a.put o.dst (.slice A' (n + m) c')) w') : wpList Try.prog ops Q (o :: rest) a w := by
  subst en
  subst em
  obtain ⟨i, hi, hz0, hz1, hz2⟩ := info_parts info5
  refine wpList_plain hgd fun K hK => ?_
  obtain ⟨A', c', w', r, h2, h3⟩ := run_append_lies w 24 o.type 5 i (.int .u8 0) 1 1 Try.underlying24 hi hz0 hz1 hz2 rfl (by decide) B A L.length c (vals L) h C M.length cm (vals M) (by simp [vals_len]) hm.lies vals_one (by unfold maxLen; omega) (by omega) hB
  rw [← vals_append] at h2
  have k' := k A' c' w' (by unfold Row; rw [List.length_append]; exact h2) h3
  unfold Oper.wp execOp
  simp only [ho, resolve, invoke, builtin, Sem.run_bind, Sem.run_pure, Result.andThen_ok, List.map_toArray, List.map_cons, List.map_nil, hs, hx, r]
  exact hK _ _ k'

theorem wpList_append_prow (w : World) {ops : Array Oper} {rest : List Oper} {o : Oper} {a : Act} {Q : Exit → Act → World → Prop} (hgd : o.guard = none) (s x : Operand)
    (ho : o.op = .call { callee := .builtin .append, args := #[s, x], argTypes := #[22, 22] })
    (B : Nat) (A : Option Addr) (c : Nat) (l l' : List Qt) (C : Option Addr) (n m cm : Nat) (hs : a.eval s = .slice A n c) (hx : a.eval x = .slice C m cm) (en : l.length = n) (em : l'.length = m) (h : Prow w B A c l) (hm : Pts w C l') (hB : B ≤ w.heap.size) (hr : (l.length + l'.length) * 32 ≤ 140737488355328)
    (k : ∀ A' c' w', Prow w' B A' c' (l ++ l') → Below B w w' → wpList Try.prog ops Q rest (a.put o.dst (.slice A' (n + m) c')) w') : wpList Try.prog ops Q (o :: rest) a w := by
  subst en
  subst em
  obtain ⟨i, hi, hz0, hz1, hz2⟩ := info_parts info41
  refine wpList_plain hgd fun K hK => ?_
  obtain ⟨A', c', w', r, h2, h3⟩ := run_append_lies w 22 o.type 41 i _ 3 32 Try.underlying22 hi hz0 hz1 hz2 rfl (by decide) B A l.length c (pvals l) h C l'.length cm (pvals l') (pvals_len l') hm.lies pvals_one (by unfold maxLen; omega) hr hB
  rw [← pvals_append] at h2
  have k' := k A' c' w' (by unfold Prow; rw [List.length_append]; exact h2) h3
  unfold Oper.wp execOp
  simp only [ho, resolve, invoke, builtin, Sem.run_bind, Sem.run_pure, Result.andThen_ok, List.map_toArray, List.map_cons, List.map_nil, hs, hx, r]
  exact hK _ _ k'

/-- A slice of bytes that has grown. -/
def Longer (w : World) (B : Nat) (L : List Int) (e : Ending) (w' : World) : Prop := ∃ A c, e = .returned (.slice A L.length c) ∧ Row w' B A c L ∧ Below B w w'

end Go.Proofs.Ytaedhedbmbmdoaa
