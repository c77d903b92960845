/-
  Memory: rows of the call's own, nil let in: of bytes, of slices; append onto them.
-/
import Derived.Test.YtjacjafpeajhaaaMem
namespace Go.Proofs.Ytjacjafpeajhaaa
open Go.RowKit

/-- Values, as they lie at an address. -/
def Lies (w : World) (C : Option Addr) (xs : List Value) : Prop := xs = [] ∨ ∃ ad, C = some ad ∧ ∀ j u, xs[j]? = some u → w.cell? (ad.add j) = some u
theorem Bys.lies {w : World} {A : Option Addr} {L : List Int} (h : Bys w A L) : Lies w A (vals L) := by
  rcases h with rfl | ⟨ad, rfl, h⟩
  · exact .inl rfl
  · refine .inr ⟨ad, rfl, fun j u hu => ?_⟩
    obtain ⟨x, hx, rfl⟩ := vals_get hu
    exact h j x hx
/-- An append, whatever the elements: the row is nil or the call's own, the source may be nil. -/
theorem run_append_grown {P : Program} (w : World) (t ty e : TypeId) (i : TypeInfo) (z : Value) (size bytes : Nat) (ht : P.underlying t = some (.slice e)) (hi : P.info? e = some i) (hz : i.zero = some z)
    (hsize : i.size = size) (hby : i.bytes = bytes) (hzs : z.cells.size = size) (hsz : 0 < size)
    (B : Nat) (A : Option Addr) (n c : Nat) (xs : List Value) (hown : w.ownsRow B e size (.slice A n c) n xs)
    (C : Option Addr) (m cm : Nat) (news : List Value) (hl : news.length = m * size) (hnews : Lies w C news) (h1 : ∀ u ∈ news, u.oneCell' = true)
    (h63 : n + m ≤ maxLen) (hbytes : (n + m) * bytes ≤ 140737488355328) (hB : B ≤ w.heap.size) :
    ∃ A' c' w', (Builtin.append_ #[t, t] ty #[.slice A n c, .slice C m cm]).run P w = .ok (.slice A' (n + m) c') w' ∧ w'.ownsRow B e size (.slice A' (n + m) c') (n + m) (xs ++ news) ∧ Below B w w' ∧ w.grownBy w' (Value.slice A n c).ownBlock := by
  have key : ∀ (v' : Value) (w' : World), w'.ownsRow B e size v' (n + m) (xs ++ news) → ∃ A' c', v' = .slice A' (n + m) c' := fun v' w' h => by
    rcases h.2 with ⟨rfl, he⟩ | ⟨g, cap, cur, rfl, _⟩
    · exact ⟨none, 0, by rw [he]⟩
    · exact ⟨_, _, rfl⟩
  by_cases hne : news = []
  · have hm : m = 0 := by
      subst hne
      simp only [List.length_nil] at hl
      rcases Nat.eq_zero_or_pos m with h | h
      · exact h
      · have := Nat.mul_pos h hsz
        omega
    subst hm
    subst hne
    refine ⟨A, c, w, ?_, by simpa using hown, Below.refl _ _, ⟨rfl, rfl, rfl, Nat.le_refl _, fun _ _ _ => rfl⟩⟩
    rcases hown.2 with ⟨h, _⟩ | ⟨g, cap, cur, h, _, _, hnc, _⟩
    · injection h with h2 h3 h4
      subst h2
      subst h3
      subst h4
      cases C <;> simp [Builtin.append_, run_underlying ht, sizeOf, typeInfo, hi, Builtin.lenOf, Builtin.firstCells, loadCells, loadCellsFrom]
    · injection h with h2 h3 h4
      subst h2
      subst h4
      cases C <;> simp [Builtin.append_, run_underlying ht, sizeOf, typeInfo, hi, Builtin.lenOf, Builtin.firstCells, loadCells, loadCellsFrom, storeCells, hnc]
  · obtain ⟨ad, rfl, hc⟩ := hnews.resolve_left hne
    obtain ⟨v', w', r, h2, h3, _⟩ := run_append_own (P := P) w B t ty e i z size bytes ht hi hz hsize hby hzs hsz _ n xs hown ad m cm news hl hc h1 h63 hbytes hB
    obtain ⟨A', c', rfl⟩ := key v' w' h2
    refine ⟨A', c', w', r, h2, (Below.refl B w).grown h3 hB fun k hk => (hown.lt k hk).1, h3⟩

theorem run_append_lies (w : World) (t ty e : TypeId) (i : TypeInfo) (z : Value) (size bytes : Nat) (ht : Try.prog.underlying t = some (.slice e)) (hi : Try.prog.info? e = some i) (hz : i.zero = some z)
    (hsize : i.size = size) (hby : i.bytes = bytes) (hzs : z.cells.size = size) (hsz : 0 < size)
    (B : Nat) (A : Option Addr) (n c : Nat) (xs : List Value) (hown : w.ownsRow B e size (.slice A n c) n xs)
    (C : Option Addr) (m cm : Nat) (news : List Value) (hl : news.length = m * size) (hnews : Lies w C news) (h1 : ∀ u ∈ news, u.oneCell' = true)
    (h63 : n + m ≤ maxLen) (hbytes : (n + m) * bytes ≤ 140737488355328) (hB : B ≤ w.heap.size) :
    ∃ A' c' w', (Builtin.append_ #[t, t] ty #[.slice A n c, .slice C m cm]).run Try.prog w = .ok (.slice A' (n + m) c') w' ∧ w'.ownsRow B e size (.slice A' (n + m) c') (n + m) (xs ++ news) ∧ Below B w w' := by
  obtain ⟨A', c', w', h1, h2, h3, -⟩ := run_append_grown w t ty e i z size bytes ht hi hz hsize hby hzs hsz B A n c xs hown C m cm news hl hnews h1 h63 hbytes hB
  exact ⟨A', c', w', h1, h2, h3⟩

/-- A row of bytes of the call's own, or nil. -/
def Row (w : World) (B : Nat) (A : Option Addr) (c : Nat) (L : List Int) : Prop := w.ownsRow B 5 1 (.slice A L.length c) L.length (vals L)
theorem Row.nil (w : World) (B : Nat) : Row w B none 0 [] := World.ownsRow_nil w B _ _
theorem Mine.row {w : World} {B g c : Nat} {L : List Int} (h : Mine w B g c L) : Row w B (some ⟨g, 0, none⟩) c L := h
theorem Row.lies {w : World} {B : Nat} {A : Option Addr} {c : Nat} {L : List Int} (h : Row w B A c L) : Bys w A L := by
  rcases h.2 with ⟨_, h⟩ | ⟨g, cap, cur, e, _⟩
  · exact .inl (List.eq_nil_of_length_eq_zero h)
  · injection e with e1 e2 e3
    subst e1
    refine .inr ⟨_, rfl, fun j x hx => World.ownsRow.cells h (g := g) rfl j _ (vals_of hx)⟩
theorem own_cap {w : World} {B : Nat} {e : TypeId} {size : Nat} {A : Option Addr} {n c : Nat} {xs : List Value} (h : w.ownsRow B e size (.slice A n c) n xs) : n ≤ c ∧ (c : Int) ≤ 9223372036854775807 := by
  rcases h.2 with ⟨e, _⟩ | ⟨g, cap, cur, e, h1, h2, h3, h4, _⟩
  · injection e with e1 e2 e3
    subst e2
    subst e3
    omega
  · injection e with e1 e2 e3
    subst e3
    unfold maxLen at h4
    omega
theorem own_kept {w w' : World} {B C : Nat} {e : TypeId} {size : Nat} {v : Value} {n : Nat} {xs : List Value} (h : w.ownsRow B e size v n xs) (hb : Below C w w') (hC : w.heap.size ≤ C) : w'.ownsRow B e size v n xs := by
  refine ⟨h.1, ?_⟩
  rcases h.2 with hn | ⟨g, cap, cur, e1, h1, h2, h3⟩
  · exact .inl hn
  · refine .inr ⟨g, cap, cur, e1, h1, ?_, h3⟩
    have hg : g < w.heap.size := (Array.getElem?_eq_some_iff.1 h2).1
    rw [hb.block g (by omega), h2]
theorem own_mono {w : World} {B C : Nat} {e : TypeId} {size : Nat} {v : Value} {n : Nat} {xs : List Value} (h : w.ownsRow B e size v n xs) (hC : C ≤ B) : w.ownsRow C e size v n xs := by
  refine ⟨h.1, ?_⟩
  rcases h.2 with hn | ⟨g, cap, cur, e1, h1, h2, h3⟩
  · exact .inl hn
  · exact .inr ⟨g, cap, cur, e1, by omega, h2, h3⟩
theorem Row.kept {w w' : World} {B C : Nat} {A : Option Addr} {c : Nat} {L : List Int} (h : Row w B A c L) (hb : Below C w w') (hC : w.heap.size ≤ C) : Row w' B A c L := own_kept h hb hC
theorem Row.mono {w : World} {B C : Nat} {A : Option Addr} {c : Nat} {L : List Int} (h : Row w B A c L) (hC : C ≤ B) : Row w C A c L := own_mono h hC
theorem Row.alloc {w : World} {B : Nat} {A : Option Addr} {c : Nat} {L : List Int} (h : Row w B A c L) (o : Obj) : Row (w.alloc o) B A c L := h.kept (below_new w o) (Nat.le_refl _)
theorem row_made (w : World) (B : Nat) (L : List Int) (cs : Array Value) (e : cs = (vals L).toArray) (hl : L.length ≤ 9) (hB : B ≤ w.heap.size) : Row (w.alloc (.cells cs 5)) B (some ⟨w.heap.size, 0, none⟩) L.length L :=
  ((mine_new w L cs e (by unfold maxLen; omega)).mono hB).row
theorem wpList_append_row (w : World) {ops : Array Oper} {rest : List Oper} {o : Oper} {a : Act} {Q : Exit → Act → World → Prop} (hgd : o.guard = none) (s x : Operand)
    (ho : o.op = .call { callee := .builtin .append, args := #[s, x], argTypes := #[38, 38] })
    (B : Nat) (A : Option Addr) (c : Nat) (L M : List Int) (C : Option Addr) (n m cm : Nat) (hs : a.eval s = .slice A n c) (hx : a.eval x = .slice C m cm) (en : L.length = n) (em : M.length = m) (h : Row w B A c L) (hm : Bys w C M) (hB : B ≤ w.heap.size) (hr : L.length + M.length ≤ 140737488355328)
    (k : ∀ A' c' w', Row w' B A' c' (L ++ M) → Below B w w' → wpList Try.prog ops Q rest (a.put o.dst (.slice A' (n + m) c')) w') : wpList Try.prog ops Q (o :: rest) a w := by
  subst en
  subst em
  obtain ⟨i, hi, hz0, hz1, hz2⟩ := info_parts info5
  refine wpList_plain hgd fun K hK => ?_
  obtain ⟨A', c', w', r, h2, h3⟩ := run_append_lies w 38 o.type 5 i (.int .u8 0) 1 1 Try.underlying38 hi hz0 hz1 hz2 rfl (by decide) B A L.length c (vals L) h C M.length cm (vals M) (by simp [vals_len]) hm.lies vals_one (by unfold maxLen; omega) (by omega) hB
  rw [← vals_append] at h2
  have k' := k A' c' w' (by unfold Row; rw [List.length_append]; exact h2) h3
  unfold Oper.wp execOp
  simp only [ho, resolve, invoke, builtin, Sem.run_bind, Sem.run_pure, Result.andThen_ok, List.map_toArray, List.map_cons, List.map_nil, hs, hx, r]
  exact hK _ _ k'

/-- A slice of bytes, as a value: its place, its room, its bytes. -/
structure Sl where
  a : Option Addr
  c : Nat
  l : List Int
def Sl.val (s : Sl) : Value := .slice s.a s.l.length s.c
def svals (T : List Sl) : List Value := T.map Sl.val
theorem svals_len (T : List Sl) : (svals T).length = T.length := by simp [svals]
theorem svals_append (S T : List Sl) : svals (S ++ T) = svals S ++ svals T := by simp [svals]
theorem svals_of {T : List Sl} {j : Nat} {s : Sl} (h : T[j]? = some s) : (svals T)[j]? = some s.val := by simp [svals, h]
theorem svals_one {T : List Sl} : ∀ u ∈ svals T, u.oneCell' = true := fun u hu => by
  obtain ⟨x, -, rfl⟩ := List.mem_map.1 hu
  rfl
def byts (T : List Sl) : List (List Int) := T.map Sl.l
theorem byts_len (T : List Sl) : (byts T).length = T.length := by simp [byts]
theorem byts_append (S T : List Sl) : byts (S ++ T) = byts S ++ byts T := by simp [byts]
theorem info38 : (Try.prog.info? 38).map (fun i => (i.zero, i.size, i.bytes)) = some (some (.slice none 0 0), 1, 24) := by kernel_rfl

/-- A row of slices of the call's own, or nil. -/
def Srow (w : World) (B : Nat) (A : Option Addr) (c : Nat) (T : List Sl) : Prop := w.ownsRow B 38 1 (.slice A T.length c) T.length (svals T)
theorem Srow.nil (w : World) (B : Nat) : Srow w B none 0 [] := World.ownsRow_nil w B _ _
theorem Srow.lies {w : World} {B : Nat} {A : Option Addr} {c : Nat} {T : List Sl} (h : Srow w B A c T) : Lies w A (svals T) := by
  rcases h.2 with ⟨_, h⟩ | ⟨g, cap, cur, e, _⟩
  · exact .inl (by rw [List.eq_nil_of_length_eq_zero h]; rfl)
  · injection e with e1 e2 e3
    subst e1
    exact .inr ⟨_, rfl, fun j u hu => World.ownsRow.cells h (g := g) rfl j u hu⟩
theorem Srow.kept {w w' : World} {B C : Nat} {A : Option Addr} {c : Nat} {T : List Sl} (h : Srow w B A c T) (hb : Below C w w') (hC : w.heap.size ≤ C) : Srow w' B A c T := own_kept h hb hC
theorem Srow.mono {w : World} {B C : Nat} {A : Option Addr} {c : Nat} {T : List Sl} (h : Srow w B A c T) (hC : C ≤ B) : Srow w C A c T := own_mono h hC
theorem Srow.alloc {w : World} {B : Nat} {A : Option Addr} {c : Nat} {T : List Sl} (h : Srow w B A c T) (o : Obj) : Srow (w.alloc o) B A c T := h.kept (below_new w o) (Nat.le_refl _)
theorem Lies.kept {w w' : World} {A : Option Addr} {xs : List Value} (h : Lies w A xs) (hb : Below w.heap.size w w') : Lies w' A xs := by
  rcases h with h | ⟨ad, h1, h2⟩
  · exact .inl h
  · refine .inr ⟨ad, h1, fun j u hu => ?_⟩
    have hc := h2 j u hu
    rw [hb.cell (World.block_lt_of_cell? w _ hc)]
    exact hc
theorem lit_lies (w : World) (xs : List Value) (cs : Array Value) (e : cs = xs.toArray) (t : TypeId) : Lies (w.alloc (.cells cs t)) (some ⟨w.heap.size, 0, none⟩) xs := by
  subst e
  refine .inr ⟨_, rfl, fun j u hu => ?_⟩
  rw [add_head]
  have h := heap_alloc_new w (.cells xs.toArray t)
  unfold World.cell?
  simp only
  rw [h]
  simp [hu]

/-- What an append onto a row of slices lets be: rows of bytes. -/
theorem Row.beside {w w' : World} {B D : Nat} {A C : Option Addr} {c d : Nat} {L : List Int} {T : List Sl} (h : Row w B A c L) (hs : Srow w D C d T) (hg : w.grownBy w' (Value.slice C T.length d).ownBlock) : Row w' B A c L := by
  refine ⟨h.1, ?_⟩
  rcases h.2 with hn | ⟨g, cap, cur, e1, h1, h2, h3⟩
  · exact .inl hn
  · refine .inr ⟨g, cap, cur, e1, h1, ?_, h3⟩
    have hlt : g < w.heap.size := (Array.getElem?_eq_some_iff.1 h2).1
    rw [hg.block g hlt, h2]
    intro e
    rcases hs.2 with ⟨hn, _⟩ | ⟨g', cap', cur', e', _, h2', _⟩
    · rw [hn] at e
      simp [Value.ownBlock] at e
    · rw [e'] at e
      obtain rfl : g = g' := by simpa [Value.ownBlock] using e
      rw [h2] at h2'
      injection h2' with h2'
      injection h2' with _ h2'
      exact absurd h2' (by decide)

/-- A slice of bytes that has grown. -/
def Longer (w : World) (B : Nat) (L : List Int) (e : Ending) (w' : World) : Prop := ∃ A c, e = .returned (.slice A L.length c) ∧ Row w' B A c L ∧ Below B w w'

end Go.Proofs.Ytjacjafpeajhaaa
