/-
  Memory: a row of bytes grows where it lies or anew; what stays beside it.
-/
import Derived.Test.YtimonpoeieenpaaKBr
import Derived.Test.YtimonpoeieenpaaKBq
import Derived.Deep.DeepAppendRoom
namespace Go.Proofs.Ytimonpoeieenpaa
open Go.RowKit

theorem run_append_empty {P : Program} (w : World) (t ty e : TypeId) (i : TypeInfo) (ht : P.underlying t = some (.slice e)) (hi : P.info? e = some i) (A : Option Addr) (n c : Nat) (hA : (A = none ∧ n = 0 ∧ c = 0) ∨ (∃ ad, A = some ad ∧ n ≤ c)) (C : Option Addr) (cm : Nat) :
    (Builtin.append_ #[t, t] ty #[.slice A n c, .slice C 0 cm]).run P w = .ok (.slice A n c) w := by
  rcases hA with ⟨rfl, rfl, rfl⟩ | ⟨ad, rfl, hnc⟩
  · cases C <;> simp [Builtin.append_, run_underlying ht, sizeOf, typeInfo, hi, Builtin.lenOf, Builtin.firstCells, loadCells, loadCellsFrom]
  · cases C <;> simp [Builtin.append_, run_underlying ht, sizeOf, typeInfo, hi, Builtin.lenOf, Builtin.firstCells, loadCells, loadCellsFrom, storeCells, hnc]
set_option maxRecDepth 100000 in
/-- Bytes more: the row stays in its block, or lies in a new one. -/
theorem row_placed (w : World) (ty : TypeId) (B : Nat) (A : Option Addr) (c : Nat) (L M : List Int) (C : Option Addr) (cm : Nat) (h : Row w B A c L) (hm : Bys w C M) (hB : B ≤ w.heap.size) (hr : L.length + M.length ≤ 140737488355328) :
    ∃ A' c' w', (Builtin.append_ #[24, 24] ty #[.slice A L.length c, .slice C M.length cm]).run Try.prog w = .ok (.slice A' (L.length + M.length) c') w' ∧ Row w' B A' c' (L ++ M) ∧ Below B w w' ∧ w.grownBy w' (Value.slice A L.length c).ownBlock ∧ ∀ ad, A' = some ad → (∃ a0, A = some a0 ∧ ad.block = a0.block) ∨ w.heap.size ≤ ad.block := by
  obtain ⟨i, hi, hz0, hz1, hz2⟩ := info_parts info5
  obtain ⟨A', c', w', r, h2, h3, h4⟩ := run_append_grown (P := Try.prog) w 24 ty 5 i (.int .u8 0) 1 1 Try.underlying24 hi hz0 hz1 hz2 rfl (by decide) B A L.length c (vals L) h C M.length cm (vals M) (by simp [vals_len]) hm.lies vals_one (by unfold maxLen; omega) (by omega) hB
  rw [← vals_append] at h2
  refine ⟨A', c', w', r, by unfold Row; rw [List.length_append]; exact h2, h3, h4, fun ad ha => ?_⟩
  by_cases hM : M = []
  · subst hM
    have e := run_append_empty (P := Try.prog) w 24 ty 5 i Try.underlying24 hi A L.length c (by
      rcases h.2 with ⟨hv, h0⟩ | ⟨g, cap, cur, hv, hbg, hg, hnc, _⟩
      · injection hv with e1 e2 e3
        exact .inl ⟨e1, e2, e3⟩
      · injection hv with e1 e2 e3
        subst e3
        exact .inr ⟨_, e1, hnc⟩) C cm
    rw [List.length_nil, e] at r
    injection r with r1 r2
    injection r1 with r1
    exact .inl ⟨ad, by rw [r1, ha], rfl⟩
  · obtain ⟨cd, rfl, hc⟩ := hm.resolve_left hM
    have hpos : 0 < M.length := List.length_pos_iff.2 hM
    have hnews : ∀ j u, (vals M)[j]? = some u → w.cell? (cd.add j) = some u := fun j u hu => by
      obtain ⟨x, e1, rfl⟩ := vals_get hu
      exact hc j x e1
    rcases h.2 with ⟨hv, h0⟩ | ⟨g, cap, cur, hv, hbg, hg, hnc, hcm, hcs, htake⟩
    · injection hv with e1 e2 e3
      subst e1
      subst e3
      have hr := run_append_nil (P := Try.prog) w 24 ty 5 i (.int .u8 0) Try.underlying24 hi hz0 cd M.length cm (vals M) (by rw [hz1, vals_len]; omega) hnews hpos (by omega) (by rw [hz2]; omega)
      rw [e2, hr] at r
      injection r with r1 r2
      injection r1 with r1
      rw [ha] at r1
      injection r1 with r1
      rw [← r1]
      exact .inr (Nat.le_refl _)
    · injection hv with e1 e2 e3
      subst e1
      subst e3
      by_cases hroom : L.length + M.length ≤ c
      · obtain ⟨w2, hr, -, -⟩ := run_append_own_spare (P := Try.prog) w B 24 ty 5 i 1 Try.underlying24 hi hz1 g L.length c (vals L) h cd M.length cm (vals M) (by simp [vals_len]) hnews vals_one hroom
        rw [hr] at r
        injection r with r1 r2
        injection r1 with r1
        rw [ha] at r1
        injection r1 with r1
        exact .inl ⟨_, rfl, by rw [← r1]⟩
      · have hr := run_append_grow (P := Try.prog) w 24 ty 5 i (.int .u8 0) Try.underlying24 hi hz0 ⟨g, 0, none⟩ L.length c (vals L) (by rw [hz1]; simp [vals_len]) (World.ownsRow.cells h (g := g) rfl) cd M.length cm (vals M) (by rw [hz1, vals_len]; omega) hnews (by omega) (by omega) (by rw [hz2]; exact growslice_fits (bytes := 1) (by omega) (by omega))
        rw [hr] at r
        injection r with r1 r2
        injection r1 with r1
        rw [ha] at r1
        injection r1 with r1
        rw [← r1]
        exact .inr (Nat.le_refl _)
theorem step_append_placed (w : World) {ops : Array Oper} {o : Oper} {a : Act} {K : Act → World → Prop} {Q : Exit → Act → World → Prop} {E : Prop} (hgd : o.guard = none) (s x : Operand)
    (ho : o.op = .call { callee := .builtin .append, args := #[s, x], argTypes := #[24, 24] })
    (B : Nat) (A : Option Addr) (c : Nat) (L M : List Int) (C : Option Addr) (n m cm : Nat) (hs : a.eval s = .slice A n c) (hx : a.eval x = .slice C m cm) (en : L.length = n) (em : M.length = m) (h : Row w B A c L) (hm : Bys w C M) (hB : B ≤ w.heap.size) (hr : L.length + M.length ≤ 140737488355328)
    (k : ∀ A' c' w', Row w' B A' c' (L ++ M) → Below B w w' → w.grownBy w' (Value.slice A L.length c).ownBlock → (∀ ad, A' = some ad → (∃ a0, A = some a0 ∧ ad.block = a0.block) ∨ w.heap.size ≤ ad.block) → K (a.put o.dst (.slice A' (n + m) c')) w') : if Region.wanted o (yielded ops a.tmps) = true then Oper.wp Try.prog o a w K Q else E := by
  have hw : Region.wanted o (yielded ops a.tmps) = true := by simp [Region.wanted, hgd]
  rw [if_pos hw]
  subst en
  subst em
  obtain ⟨A', c', w', r, h2, h3, h4, h5⟩ := row_placed w o.type B A c L M C cm h hm hB hr
  have k' := k A' c' w' h2 h3 h4 h5
  unfold Oper.wp execOp
  simp only [ho, resolve, invoke, builtin, Sem.run_bind, Sem.run_pure, Result.andThen_ok, List.map_toArray, List.map_cons, List.map_nil, hs, hx, r]
  exact k'
/-- A row's beginning is a row. -/
theorem Row.high {w : World} {B : Nat} {A : Option Addr} {c : Nat} {L : List Int} (h : Row w B A c L) (k : Nat) (hk : k ≤ L.length) : Row w B A c (L.take k) := by
  have hlen : (L.take k).length = k := by rw [List.length_take]; omega
  rcases h.2 with ⟨hv, h0⟩ | ⟨g, cap, cur, hv, hbg, hg, hnc, hcm, hcs, htake⟩
  · have : L = [] := List.eq_nil_of_length_eq_zero h0
    subst this
    simpa using h
  · injection hv with e1 e2 e3
    subst e1
    subst e3
    refine ⟨by rw [hlen]; simp [vals_len, hlen], .inr ⟨g, c, cur, by rw [hlen], hbg, hg, by omega, hcm, hcs, ?_⟩⟩
    rw [hlen]
    simp only [Nat.mul_one] at htake ⊢
    have : (cur.toList.take L.length).take k = (vals L).take k := by rw [htake]
    rw [List.take_take, Nat.min_eq_left hk] at this
    rw [this]
    simp [vals, List.map_take]

/-- Where the iterator stands: the pairs told, the error, its own key. -/
structure Ks where
  ps : List Pr
  e : Int
  ka : Option Addr
  kc : Nat
  k : List Int
/-- An address lies in none of the blocks of some pairs. -/
def Far (A : Option Addr) (T : List Bp) : Prop := ∀ q ∈ T, ∀ ad, A = some ad → (∀ bd, q.k.a = some bd → bd.block ≠ ad.block) ∧ (∀ bd, q.v.a = some bd → bd.block ≠ ad.block)
theorem Far.nil (A : Option Addr) : Far A [] := fun _ h => by cases h
/-- While the key turns, rows elsewhere stay. -/
theorem own_far {w w' : World} {B : Nat} {e : TypeId} {size : Nat} {A C : Option Addr} {n c m d : Nat} {xs : List Value} (h : w.ownsRow B e size (.slice C m d) m xs) (hg : w.grownBy w' (Value.slice A n c).ownBlock) (hf : ∀ ad, A = some ad → ∀ cd, C = some cd → cd.block ≠ ad.block) : w'.ownsRow B e size (.slice C m d) m xs := by
  refine ⟨h.1, ?_⟩
  rcases h.2 with hn | ⟨g, cap, cur, e1, h1, h2, h3⟩
  · exact .inl hn
  · refine .inr ⟨g, cap, cur, e1, h1, ?_, h3⟩
    injection e1 with e1
    rw [hg.block g (Array.getElem?_eq_some_iff.1 h2).1 (fun e' => ?_), h2]
    cases A with
    | none => simp [Value.ownBlock] at e'
    | some ad => exact hf ad rfl _ e1 (by simpa [Value.ownBlock] using e')

end Go.Proofs.Ytimonpoeieenpaa
