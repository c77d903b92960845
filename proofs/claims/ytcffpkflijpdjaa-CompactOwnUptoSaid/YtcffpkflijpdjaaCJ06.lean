/-
  Plain: a heap in a list: what goes up, what goes down, the first is the least. Walks: a heap of lists of entries: its length, its order. Walks: a heap of lists of entries: which stands ahead, what changes places. Walks: a heap of lists of entries: two change their places. Walks: a heap of lists of entries: one more is put in.
-/
import Derived.Test.YtcffpkflijpdjaaCJ01
import Derived.Test.YtcffpkflijpdjaaCJ05
set_option linter.unusedSimpArgs false
set_option linter.unusedVariables false
namespace Go.Proofs.Ytcffpkflijpdjaa
/-- Two places of a list, changed for one another. -/
def swapL {α : Type} (T : List α) (i k : Nat) : List α := match T[i]?, T[k]? with
  | some a, some b => (T.set i b).set k a
  | _, _ => T
theorem swapL_len {α : Type} (T : List α) (i k : Nat) : (swapL T i k).length = T.length := by
  unfold swapL
  split <;> simp
theorem swapL_get {α : Type} {T : List α} {i k : Nat} (hi : i < T.length) (hk : k < T.length) (j : Nat) : (swapL T i k)[j]? = if j = k then T[i]? else if j = i then T[k]? else T[j]? := by
  unfold swapL
  rw [List.getElem?_eq_getElem hi, List.getElem?_eq_getElem hk]
  simp only
  by_cases h1 : j = k
  · subst h1
    rw [if_pos rfl, List.getElem?_set_self (by simpa using hk)]
  · rw [if_neg h1, List.getElem?_set_ne (fun e => h1 e.symm)]
    by_cases h2 : j = i
    · subst h2
      rw [if_pos rfl, List.getElem?_set_self hi]
    · rw [if_neg h2, List.getElem?_set_ne (fun e => h2 e.symm)]
theorem swapL_perm {α : Type} {T : List α} {i k : Nat} (hi : i < T.length) (hk : k < T.length) : (swapL T i k).Perm T := by
  unfold swapL
  rw [List.getElem?_eq_getElem hi, List.getElem?_eq_getElem hk]
  exact List.set_set_perm hi hk
section
variable {α : Type} (le : α → α → Prop)
/-- None stands ahead of the one at half its place. -/
def Heaped (T : List α) : Prop := ∀ i s p, 0 < i → T[i]? = some s → T[(i - 1) / 2]? = some p → le p s
def HeapUp (T : List α) (n : Nat) : Prop := (∀ i s p, 0 < i → i ≠ n → T[i]? = some s → T[(i - 1) / 2]? = some p → le p s) ∧ (∀ i s p, 0 < i → 0 < n → (i - 1) / 2 = n → T[i]? = some s → T[(n - 1) / 2]? = some p → le p s)
def HeapDown (T : List α) (n : Nat) : Prop := (∀ i s p, 0 < i → (i - 1) / 2 ≠ n → T[i]? = some s → T[(i - 1) / 2]? = some p → le p s) ∧ (∀ i s p, 0 < i → 0 < n → (i - 1) / 2 = n → T[i]? = some s → T[(n - 1) / 2]? = some p → le p s)
variable {le}
theorem heaped_nil : Heaped le ([] : List α) := fun i s p _ h => by simp at h
theorem heaped_up {T : List α} (h : Heaped le T) (x : α) : HeapUp le (T ++ [x]) T.length := by
  refine ⟨fun i s p h0 hn hs hp => ?_, fun i s p h0 hn hi hs hp => ?_⟩
  · have h1 := (List.getElem?_eq_some_iff.1 hs).1
    rw [List.length_append, List.length_singleton] at h1
    rw [List.getElem?_append_left (by omega)] at hs hp
    exact h i s p h0 hs hp
  · have h1 := (List.getElem?_eq_some_iff.1 hs).1
    rw [List.length_append, List.length_singleton] at h1
    omega
theorem up_done {T : List α} {n : Nat} (h : HeapUp le T n) (hd : ∀ s p, 0 < n → T[n]? = some s → T[(n - 1) / 2]? = some p → le p s) : Heaped le T := fun i s p h0 hs hp => by
  by_cases e : i = n
  · subst e
    exact hd s p h0 hs hp
  · exact h.1 i s p h0 e hs hp
theorem up_step {T : List α} {n : Nat} {x q : α} (tr : ∀ a b c, le a b → le b c → le a c) (h : HeapUp le T n) (hn : 0 < n) (hx : T[n]? = some x) (hq : T[(n - 1) / 2]? = some q) (hl : le x q) : HeapUp le (swapL T n ((n - 1) / 2)) ((n - 1) / 2) := by
  have n1 := (List.getElem?_eq_some_iff.1 hx).1
  obtain ⟨m, hm⟩ : ∃ m, (n - 1) / 2 = m := ⟨_, rfl⟩
  rw [hm] at hq ⊢
  have hmn : m < n := by omega
  have G := swapL_get (T := T) (i := n) (k := m) n1 (by omega)
  refine ⟨fun i s p h0 hi hs hp => ?_, fun i s p h0 hm0 hi hs hp => ?_⟩
  · rw [G, if_neg hi] at hs
    rw [G] at hp
    by_cases e1 : i = n
    · subst e1
      rw [if_pos rfl, hq] at hs
      rw [if_pos hm, hx] at hp
      injection hs with hs
      injection hp with hp
      subst hs hp
      exact hl
    · rw [if_neg e1] at hs
      by_cases e2 : (i - 1) / 2 = m
      · rw [if_pos e2, hx] at hp
        injection hp with hp
        subst hp
        exact tr _ _ _ hl (h.1 i s q h0 e1 hs (by rw [e2]; exact hq))
      · rw [if_neg e2] at hp
        by_cases e3 : (i - 1) / 2 = n
        · rw [if_pos e3, hq] at hp
          injection hp with hp
          subst hp
          exact h.2 i s q h0 hn e3 hs (by rw [hm]; exact hq)
        · rw [if_neg e3] at hp
          exact h.1 i s p h0 e1 hs hp
  · rw [G, if_neg (by omega), if_neg (by omega)] at hp
    have hqp : le p q := h.1 m q p hm0 (by omega) hq hp
    rw [G, if_neg (by omega)] at hs
    by_cases e1 : i = n
    · rw [if_pos e1, hq] at hs
      injection hs with hs
      subst hs
      exact hqp
    · rw [if_neg e1] at hs
      exact tr _ _ _ hqp (h.1 i s q h0 e1 hs (by rw [hi]; exact hq))
theorem heaped_down {T T' : List α} (h : Heaped le T) (hs : ∀ i, 0 < i → i < T'.length → T'[i]? = T[i]?) : HeapDown le T' 0 := by
  refine ⟨fun i s p h0 hi h1 h2 => ?_, fun i s p h0 hn => by omega⟩
  have := (List.getElem?_eq_some_iff.1 h1).1
  rw [hs i h0 this] at h1
  rw [hs _ (by omega) (by omega)] at h2
  exact h i s p h0 h1 h2
theorem down_done {T : List α} {n : Nat} (h : HeapDown le T n) (hd : ∀ i s p, 0 < i → (i - 1) / 2 = n → T[i]? = some s → T[n]? = some p → le p s) : Heaped le T := fun i s p h0 hs hp => by
  by_cases e : (i - 1) / 2 = n
  · rw [e] at hp
    exact hd i s p h0 e hs hp
  · exact h.1 i s p h0 e hs hp
theorem down_step {T : List α} {n m : Nat} {x q : α} (tr : ∀ a b c, le a b → le b c → le a c) (h : HeapDown le T n) (hm0 : 0 < m) (hm : (m - 1) / 2 = n) (hx : T[m]? = some x) (hq : T[n]? = some q) (hl : le x q) (hmin : ∀ i s, 0 < i → (i - 1) / 2 = n → T[i]? = some s → le x s) : HeapDown le (swapL T m n) m := by
  have n1 := (List.getElem?_eq_some_iff.1 hx).1
  have n2 := (List.getElem?_eq_some_iff.1 hq).1
  have G := swapL_get (T := T) (i := m) (k := n) n1 n2
  refine ⟨fun i s p h0 hi hs hp => ?_, fun i s p h0 hn hi hs hp => ?_⟩
  · rw [G] at hs hp
    by_cases e1 : i = n
    · subst e1
      rw [if_pos rfl, hx] at hs
      rw [if_neg (by omega), if_neg (by omega)] at hp
      injection hs with hs
      subst hs
      exact h.2 m x p hm0 h0 hm hx hp
    · rw [if_neg e1] at hs
      by_cases e2 : (i - 1) / 2 = n
      · rw [if_pos e2, hx] at hp
        injection hp with hp
        subst hp
        by_cases e3 : i = m
        · rw [if_pos e3, hq] at hs
          injection hs with hs
          subst hs
          exact hl
        · rw [if_neg e3] at hs
          exact hmin i s h0 e2 hs
      · rw [if_neg e2, if_neg hi] at hp
        by_cases e3 : i = m
        · omega
        · rw [if_neg e3] at hs
          exact h.1 i s p h0 e2 hs hp
  · rw [G, if_neg (by omega), if_neg (by omega)] at hs
    rw [G, hm, if_pos rfl, hx] at hp
    injection hp with hp
    subst hp
    exact h.1 i s x h0 (by omega) hs (by rw [hi]; exact hx)
theorem heaped_least {T : List α} (tr : ∀ a b c, le a b → le b c → le a c) (rf : ∀ a, le a a) (h : Heaped le T) {r : α} (hr : T[0]? = some r) : ∀ (i : Nat) (s : α), T[i]? = some s → le r s := by
  intro i
  induction i using Nat.strongRecOn with
  | _ i ih =>
    intro s hs
    rcases Nat.eq_zero_or_pos i with e | e
    · subst e
      rw [hr] at hs
      injection hs with hs
      subst hs
      exact rf _
    · have hlt : (i - 1) / 2 < T.length := by have := (List.getElem?_eq_some_iff.1 hs).1; omega
      have hp := List.getElem?_eq_getElem hlt
      exact tr _ _ _ (ih _ (by omega) _ hp) (h i s _ e hs hp)
end
/-- Stands ahead of, or at its place. -/
def leE (x y : Er) : Prop := ordE x y ≤ 0
theorem leE_refl (x : Er) : leE x x := by
  unfold leE
  rw [ordE_self]
  exact Int.le_refl _
theorem ordE_same {x x' y : Er} (h : ordE x x' = 0) : ordE x y = ordE x' y := by
  obtain ⟨h1, h2⟩ := ordE_zero.1 h
  unfold ordE
  rw [h1, h2]
theorem leE_trans (x y z : Er) (h : leE x y) (g : leE y z) : leE x z := by
  unfold leE at *
  rcases Int.lt_or_eq_of_le h with h | h
  · rcases Int.lt_or_eq_of_le g with g | g
    · exact Int.le_of_lt (ordE_trans h g)
    · have e := ordE_same (y := x) g
      have f1 := ordE_flip x y
      have f2 := ordE_flip x z
      omega
  · rw [ordE_same h]
    exact g
theorem not_ahead {x y : Er} (h : ¬ ordE x y < 0) : leE y x := by
  unfold leE
  have := ordE_flip x y
  omega
end Go.Proofs.Ytcffpkflijpdjaa
namespace Go.Proofs.Ytcffpkflijpdjaa
open Go.RowKit
theorem Grow.high {w : World} {B : Nat} {A : Option Addr} {c : Nat} {T : List Gl} (h : Grow w B A c T) (k : Nat) (hk : k ≤ T.length) : Grow w B A c (T.take k) := by
  have hl : (T.take k).length = k := by rw [List.length_take]; omega
  rcases h with ⟨h1, h2⟩
  unfold Grow
  rw [hl]
  refine ⟨by rw [gvals_len, hl]; simp, ?_⟩
  rcases h2 with ⟨e, h0⟩ | ⟨g, cap, cur, e, k1, k2, k3, k4, k5, k6⟩
  · injection e with e1 e2 e3
    subst e1 e3
    have : k = 0 := by omega
    subst this
    exact .inl ⟨rfl, rfl⟩
  · injection e with e1 e2 e3
    subst e1 e3
    refine .inr ⟨g, c, cur, rfl, k1, k2, by omega, k4, k5, ?_⟩
    have e4 : gvals (T.take k) = (gvals T).take k := by simp [gvals, List.map_take]
    rw [e4, ← k6, List.take_take]
    congr 1
    simp
    omega
theorem grow_at {w : World} {B : Nat} {A : Option Addr} {c k : Nat} {T : List Gl} (h : Grow w B A c T) (hk : k < T.length) : ∃ g s, A = some ⟨g, 0, none⟩ ∧ T[k]? = some s ∧ w.cell? ⟨g, k, none⟩ = some s.val ∧ w.frozen? ⟨g, k, none⟩ = false ∧ ∀ u : Gl, Grow (w.setCell ⟨g, k, none⟩ u.val) B A c (T.set k u) := by
  have h' := h
  rcases h.2 with ⟨_, h0⟩ | ⟨g, cap, cur, e, h1, _⟩
  · omega
  · injection e with e1 e2 e3
    subst e1
    subst e3
    unfold Grow at h'
    refine ⟨g, T[k], rfl, List.getElem?_eq_getElem hk, ?_, h'.frozenAt _, fun u => ?_⟩
    · rw [h'.cellAt k (by omega)]
      simp [gvals, hk]
    · have := (h'.stored k u.val).1
      unfold Grow
      have e : (gvals T).set k u.val = gvals (T.set k u) := by simp [gvals, List.map_set]
      rw [List.length_set, ← e]
      exact this
/-- A list that isn't empty, and lies. -/
def GIn (w : World) (s : Gl) : Prop := s.l ≠ [] ∧ Lies w s.a (evals s.l) ∧ EIns w s.l ∧ s.l.length ≤ s.c ∧ (s.c : Int) ≤ 9223372036854775807
theorem GIn.kept {w W : World} {s : Gl} (h : GIn w s) (hb : Below w.heap.size w W) : GIn W s := ⟨h.1, h.2.1.kept hb, h.2.2.1.kept hb, h.2.2.2⟩
/-- Its first entry. -/
def hdE (s : Gl) : Er := match s.l with
  | [] => ([], 0, false, [])
  | x :: _ => x.rd
theorem hd_of {s : Gl} {x : En} (h : s.l[0]? = some x) : hdE s = x.rd := by
  unfold hdE
  cases hl : s.l with
  | nil => rw [hl] at h; simp at h
  | cons y l => rw [hl] at h; simp at h; subst h; rfl
theorem GIn.head {w : World} {s : Gl} (h : GIn w s) : ∃ (ad : Addr) (x : En), s.a = some ad ∧ s.l[0]? = some x ∧ AtE w ad x ∧ EIn w x := by
  obtain ⟨x, hx⟩ : ∃ x, s.l[0]? = some x := by
    cases hl : s.l with
    | nil => exact absurd hl h.1
    | cons y l => exact ⟨y, rfl⟩
  obtain ⟨ad, e, hA⟩ := lies_entry h.2.1 hx
  have e0 : ad.add (0 * 4) = ad := by
    obtain ⟨a, b, c⟩ := ad
    rfl
  rw [e0] at hA
  exact ⟨ad, x, e, hx, hA, h.2.2.1 x (List.mem_of_getElem? hx)⟩
/-- The heap, as it lies. -/
structure Hp (w0 W : World) (hb : Nat) (A : Option Addr) (c : Nat) (T : List Gl) : Prop where
  low : w0.heap.size ≤ hb
  obj : W.heap[hb]? = some (.cells #[.slice A T.length c, .func (.func 81) #[] #[]] 128 (0, 0))
  row : Grow W w0.heap.size A c T
  bel : Below w0.heap.size w0 W
  ins : ∀ s ∈ T, GIn w0 s
theorem Hp.kept {w0 W W' : World} {hb : Nat} {A : Option Addr} {c : Nat} {T : List Gl} (h : Hp w0 W hb A c T) (hw : Below W.heap.size W W') : Hp w0 W' hb A c T :=
  ⟨h.low, (hw.block _ (Array.getElem?_eq_some_iff.1 h.obj).1).trans h.obj, h.row.kept hw (Nat.le_refl _), h.bel.trans (hw.mono h.bel.size), h.ins⟩
theorem Hp.cells {w0 W : World} {hb : Nat} {A : Option Addr} {c : Nat} {T : List Gl} (h : Hp w0 W hb A c T) : W.cell? ⟨hb, 0, none⟩ = some (.slice A T.length c) ∧ W.cell? ⟨hb, 1, none⟩ = some (.func (.func 81) #[] #[]) := by
  refine ⟨?_, ?_⟩ <;> simp [World.cell?, h.obj]
set_option maxRecDepth 100000 in
set_option maxHeartbeats 4000000 in
theorem hlen_any {w0 W : World} {hb : Nat} {A : Option Addr} {c : Nat} {T : List Gl} (h : Hp w0 W hb A c T) : Calls Try.prog 83 #[.pointer (some ⟨hb, 0, none⟩)] W fun e w' => e = .returned (.int .i64 T.length) ∧ w' = W := by
  obtain ⟨n, hn⟩ : ∃ n, T.length = n := ⟨_, rfl⟩
  obtain ⟨c0, -⟩ := h.cells
  rw [hn] at c0 ⊢
  clear h hn
  go_enter Try.func83, Try.ntmps83
  go_wp2_with fail
  go_ret
  exact ⟨rfl, rfl⟩
set_option maxRecDepth 100000 in
set_option maxHeartbeats 4000000 in
theorem hord_any (x y : Gl) (W : World) (hx : GIn W x) (hy : GIn W y) : Calls Try.prog 81 #[x.val, y.val] W fun e w' => e = .returned (.int .i64 (ordE (hdE x) (hdE y))) ∧ Below W.heap.size W w' := by
  obtain ⟨ax, p, ex, hp, -, -⟩ := hx.head
  obtain ⟨ay, q, ey, hq, -, -⟩ := hy.head
  rw [hd_of hp, hd_of hq]
  obtain ⟨n, hn⟩ : ∃ n, x.l.length = n := ⟨_, rfl⟩
  obtain ⟨m, hm⟩ : ∃ m, y.l.length = m := ⟨_, rfl⟩
  have n0 : 0 < n := by have := (List.getElem?_eq_some_iff.1 hp).1; omega
  have m0 : 0 < m := by have := (List.getElem?_eq_some_iff.1 hq).1; omega
  have n1 : (0 : Int) < n := by omega
  have m1 : (0 : Int) < m := by omega
  have n2 : n ≠ 0 := by omega
  have m2 : m ≠ 0 := by omega
  obtain ⟨pn, hpn⟩ : ∃ m, p.k.l.length = m := ⟨_, rfl⟩
  obtain ⟨pv, hpv⟩ : ∃ m, p.v.l.length = m := ⟨_, rfl⟩
  obtain ⟨qn, hqn⟩ : ∃ m, q.k.l.length = m := ⟨_, rfl⟩
  obtain ⟨qv, hqv⟩ : ∃ m, q.v.l.length = m := ⟨_, rfl⟩
  have HS : Hid (∀ V, Below W.heap.size W V → (V.cell? ax = some (.slice p.k.a pn p.k.c) ∧ V.cell? ⟨ax.block, ax.off + 1, none⟩ = some (.int .i64 p.s) ∧ V.cell? ⟨ax.block, ax.off + 2, none⟩ = some (.bool p.d) ∧ V.cell? ⟨ax.block, ax.off + 3, none⟩ = some (.slice p.v.a pv p.v.c)) ∧ V.cell? ay = some (.slice q.k.a qn q.k.c) ∧ V.cell? ⟨ay.block, ay.off + 1, none⟩ = some (.int .i64 q.s) ∧ V.cell? ⟨ay.block, ay.off + 2, none⟩ = some (.bool q.d) ∧ V.cell? ⟨ay.block, ay.off + 3, none⟩ = some (.slice q.v.a qv q.v.c)) := Lib.hid (fun V hb => by
    obtain ⟨a1, p1, e1, h1, k1, -⟩ := (hx.kept hb).head
    obtain ⟨a2, q1, e2, h2, k2, -⟩ := (hy.kept hb).head
    rw [ex] at e1
    rw [ey] at e2
    injection e1 with e1
    injection e2 with e2
    rw [hp] at h1
    rw [hq] at h2
    injection h1 with h1
    injection h2 with h2
    subst e1 e2 h1 h2
    unfold AtE at k1 k2
    rw [hpn, hpv] at k1
    rw [hqn, hqv] at k2
    exact ⟨k1, k2⟩)
  have HO : Hid (∀ V, Below W.heap.size W V → Calls Try.prog 53 #[.agg #[.slice p.k.a pn p.k.c, .int .i64 p.s, .bool p.d, .slice p.v.a pv p.v.c], .agg #[.slice q.k.a qn q.k.c, .int .i64 q.s, .bool q.d, .slice q.v.a qv q.v.c]] V fun e w' => e = .returned (.int .i64 (ordE p.rd q.rd)) ∧ Below V.heap.size V w') := Lib.hid (fun V hb => by
    have := order_any p q V ((hx.2.2.1.kept hb) p (List.mem_of_getElem? hp)) ((hy.2.2.1.kept hb) q (List.mem_of_getElem? hq))
    rwa [En.val_eq, En.val_eq, hpn, hpv, hqn, hqv] at this)
  unfold Gl.val
  rw [ex, ey, hn, hm]
  have BB := Lib.hid (Below.refl W.heap.size W)
  clear hx hy ex ey hp hq hn hm hpn hpv hqn hqv
  go_enter Try.func81, Try.ntmps81
  go_upto_region 1 with fail
  go_region_held3 (fun V => (V.cell? ax = some (.slice p.k.a pn p.k.c) ∧ V.cell? ⟨ax.block, ax.off + 1, none⟩ = some (.int .i64 p.s) ∧ V.cell? ⟨ax.block, ax.off + 2, none⟩ = some (.bool p.d) ∧ V.cell? ⟨ax.block, ax.off + 3, none⟩ = some (.slice p.v.a pv p.v.c)) ∧ V.cell? ay = some (.slice q.k.a qn q.k.c) ∧ V.cell? ⟨ay.block, ay.off + 1, none⟩ = some (.int .i64 q.s) ∧ V.cell? ⟨ay.block, ay.off + 2, none⟩ = some (.bool q.d) ∧ V.cell? ⟨ay.block, ay.off + 3, none⟩ = some (.slice q.v.a qv q.v.c)) (first | exact HS.out _ BB.out | exact HS.out _ BB.out.drew | go_keep) (first
    | (go_at_call 53; refine (HO.out _ (by first | exact BB.out | exact BB.out.drew)).mono ?_; rintro e w2 ⟨rfl, b2⟩; have BB : Hid (Below W.heap.size W w2) := Lib.hid (below_then (by first | exact BB.out | exact BB.out.drew) b2); clear b2))
  all_goals
    go_wp2_with fail
    go_ret
    exact ⟨rfl, BB.out⟩
end Go.Proofs.Ytcffpkflijpdjaa
namespace Go.Proofs.Ytcffpkflijpdjaa
open Go.RowKit
set_option maxRecDepth 100000 in
set_option maxHeartbeats 4000000 in
theorem parent_any (n : Nat) (W : World) (hn : 0 < n) (h9 : (n : Int) ≤ 4611686018427387904) : Calls Try.prog 96 #[.int .i64 n] W fun e w' => e = .returned (.int .i64 ((n - 1) / 2 : Nat)) ∧ w' = W := by
  obtain ⟨m, hm⟩ : ∃ m : Nat, n - 1 = m := ⟨_, rfl⟩
  have w1 : wrap64 ((n : Int) - 1) = (m : Int) := by unfold wrap64; omega
  have w2 : wrap64 ((m : Int) / 2) = ((m / 2 : Nat) : Int) := by unfold wrap64; omega
  have HM := Lib.hid hm
  clear hm h9 hn
  go_enter Try.func96, Try.ntmps96
  go_wp2_with fail
  go_ret
  exact ⟨by rw [HM.out]; show Ending.returned (.int .i64 (wrap64 ((m : Int) / 2))) = _; rw [w2], rfl⟩
set_option maxRecDepth 100000 in
set_option maxHeartbeats 4000000 in
theorem child_any (n : Nat) (W : World) (h9 : (n : Int) ≤ 2305843009213693952) : Calls Try.prog 98 #[.int .i64 n] W fun e w' => e = .returned (.int .i64 (2 * n + 1 : Nat)) ∧ w' = W := by
  obtain ⟨m, hm⟩ : ∃ m : Nat, 2 * n = m := ⟨_, rfl⟩
  have w1 : wrap64 (2 * (n : Int)) = (m : Int) := by unfold wrap64; omega
  have w2 : wrap64 ((m : Int) + 1) = ((m + 1 : Nat) : Int) := by unfold wrap64; omega
  have HM := Lib.hid hm
  clear hm h9
  go_enter Try.func98, Try.ntmps98
  go_wp2_with fail
  go_ret
  exact ⟨by rw [HM.out]; show Ending.returned (.int .i64 (wrap64 ((m : Int) + 1))) = _; rw [w2], rfl⟩
theorem Hp.at_ {w0 W : World} {hb : Nat} {A : Option Addr} {c : Nat} {T : List Gl} (h : Hp w0 W hb A c T) {i : Nat} {s : Gl} (hs : T[i]? = some s) : ∃ g, A = some ⟨g, 0, none⟩ ∧ W.cell? ⟨g, i, none⟩ = some s.val := by
  obtain ⟨g, s', e, h1, h2, -⟩ := grow_at h.row (List.getElem?_eq_some_iff.1 hs).1
  rw [hs] at h1
  injection h1 with h1
  subst h1
  exact ⟨g, e, h2⟩
set_option maxRecDepth 100000 in
set_option maxHeartbeats 4000000 in
theorem isAhead_any {w0 W : World} {hb : Nat} {A : Option Addr} {c : Nat} {T : List Gl} (h : Hp w0 W hb A c T) (i k : Nat) (s p : Gl) (hs : T[i]? = some s) (hp : T[k]? = some p) : Calls Try.prog 95 #[.pointer (some ⟨hb, 0, none⟩), .int .i64 i, .int .i64 k] W fun e w' => e = .returned (.bool (decide (ordE (hdE s) (hdE p) < 0))) ∧ Below W.heap.size W w' := by
  obtain ⟨n, hn⟩ : ∃ n, T.length = n := ⟨_, rfl⟩
  have HH := Lib.hid h
  obtain ⟨g, rfl, -⟩ := h.at_ hs
  have hi := (List.getElem?_eq_some_iff.1 hs).1
  have hk := (List.getElem?_eq_some_iff.1 hp).1
  have i0 : (i : Int) < n := by omega
  have k0 : (k : Int) < n := by omega
  obtain ⟨d, hd⟩ : ∃ d, ordE (hdE s) (hdE p) = d := ⟨_, rfl⟩
  rw [hd]
  obtain ⟨sn, hsn⟩ : ∃ m, s.l.length = m := ⟨_, rfl⟩
  obtain ⟨pn, hpn⟩ : ∃ m, p.l.length = m := ⟨_, rfl⟩
  have HS : Hid (∀ V, Below W.heap.size W V → (V.cell? ⟨hb, 0, none⟩ = some (.slice (some ⟨g, 0, none⟩) n c) ∧ V.cell? ⟨hb, 1, none⟩ = some (.func (.func 81) #[] #[])) ∧ V.cell? ⟨g, i, none⟩ = some (.slice s.a sn s.c) ∧ V.cell? ⟨g, k, none⟩ = some (.slice p.a pn p.c)) := Lib.hid (fun V hV => by
    have h' := HH.out.kept hV
    obtain ⟨g1, e1, a1⟩ := h'.at_ hs
    obtain ⟨g2, e2, a2⟩ := h'.at_ hp
    injection e1 with e1
    injection e1 with e1
    injection e2 with e2
    injection e2 with e2
    subst e1 e2
    have := h'.cells
    rw [hn] at this
    unfold Gl.val at a1 a2
    rw [hsn] at a1
    rw [hpn] at a2
    exact ⟨this, a1, a2⟩)
  have HO : Hid (∀ V, Below W.heap.size W V → Calls Try.prog 81 #[.slice s.a sn s.c, .slice p.a pn p.c] V fun e w' => e = .returned (.int .i64 d) ∧ Below V.heap.size V w') := Lib.hid (fun V hV => by
    have := hord_any s p V ((HH.out.ins s (List.mem_of_getElem? hs)).kept (HH.out.bel.trans (hV.mono HH.out.bel.size))) ((HH.out.ins p (List.mem_of_getElem? hp)).kept (HH.out.bel.trans (hV.mono HH.out.bel.size)))
    unfold Gl.val at this
    rwa [hsn, hpn, hd] at this)
  have BB := Lib.hid (Below.refl W.heap.size W)
  clear h hs hp hn hd hsn hpn hi hk
  go_enter Try.func95, Try.ntmps95
  go_upto_region 1 with fail
  go_region_held3 (fun V => (V.cell? ⟨hb, 0, none⟩ = some (.slice (some ⟨g, 0, none⟩) n c) ∧ V.cell? ⟨hb, 1, none⟩ = some (.func (.func 81) #[] #[])) ∧ V.cell? ⟨g, i, none⟩ = some (.slice s.a sn s.c) ∧ V.cell? ⟨g, k, none⟩ = some (.slice p.a pn p.c)) (first | exact HS.out _ BB.out | exact HS.out _ BB.out.drew | go_keep) (first
    | (go_at_call 81; refine (HO.out _ (by first | exact BB.out | exact BB.out.drew)).mono ?_; rintro e w2 ⟨rfl, b2⟩; have BB : Hid (Below W.heap.size W w2) := Lib.hid (below_then (by first | exact BB.out | exact BB.out.drew) b2); clear b2))
  all_goals
    go_wp2_with fail
    go_ret
    exact ⟨rfl, BB.out⟩
end Go.Proofs.Ytcffpkflijpdjaa
namespace Go.Proofs.Ytcffpkflijpdjaa
open Go.RowKit
/-- Rows and boxes of entries stand. -/
def Bes (W W' : World) : Prop := W.heap.size ≤ W'.heap.size ∧ ∀ (g : Nat) (cs : Array Value) (fr : Nat × Nat), W.heap[g]? = some (.cells cs 26 fr) → W'.heap[g]? = some (.cells cs 26 fr)
theorem Bes.refl (W : World) : Bes W W := ⟨Nat.le_refl _, fun _ _ _ h => h⟩
theorem Bes.trans {a b c : World} (h : Bes a b) (k : Bes b c) : Bes a c := ⟨Nat.le_trans h.1 k.1, fun g cs fr e => k.2 g cs fr (h.2 g cs fr e)⟩
theorem Bes.of_below {W W' : World} (h : Below W.heap.size W W') : Bes W W' := ⟨h.size, fun g _ _ e => (h.block g (Array.getElem?_eq_some_iff.1 e).1).trans e⟩
theorem Bes.set {W W' : World} (h : Bes W W') {g i : Nat} {v : Value} {cs : Array Value} {ty : TypeId} {fr : Nat × Nat} (hg : W'.heap[g]? = some (.cells cs ty fr)) (ht : ty ≠ 26) : Bes W (W'.setCell ⟨g, i, none⟩ v) := by
  refine ⟨by simpa using h.1, fun j cs' fr' e => ?_⟩
  have h1 := h.2 j cs' fr' e
  have hne : j ≠ g := fun e' => by
    rw [e', hg] at h1
    injection h1 with h1
    injection h1 with _ h1
    exact ht h1
  rw [Below.heap_setCell W' ⟨g, i, none⟩ v j hne]
  exact h1
theorem Bes.erow {W W' : World} {B c : Nat} {A : Option Addr} {l : List En} (h : Erow W B A c l) (hb : Bes W W') : Erow W' B A c l := by
  refine ⟨h.1, ?_⟩
  rcases h.2 with e | ⟨g, cap, cur, e, k1, k2, k3⟩
  · exact .inl e
  · exact .inr ⟨g, cap, cur, e, k1, hb.2 _ _ _ k2, k3⟩
theorem grow_obj {w : World} {B c g : Nat} {T : List Gl} (h : Grow w B (some ⟨g, 0, none⟩) c T) : ∃ cur, w.heap[g]? = some (.cells cur 22 (0, 0)) := by
  rcases h.2 with ⟨e, _⟩ | ⟨g', cap, cur, e, _, h2, _⟩
  · cases e
  · injection e with e
    injection e with e
    injection e with e
    subst e
    exact ⟨cur, h2⟩
/-- A place of the heap's row is written. -/
theorem Hp.set {w0 W : World} {hb c g : Nat} {T : List Gl} (h : Hp w0 W hb (some ⟨g, 0, none⟩) c T) {i : Nat} {u : Gl} (hi : i < T.length) (hu : GIn w0 u) : Hp w0 (W.setCell ⟨g, i, none⟩ u.val) hb (some ⟨g, 0, none⟩) c (T.set i u) ∧ Bes W (W.setCell ⟨g, i, none⟩ u.val) ∧ W.frozen? ⟨g, i, none⟩ = false := by
  obtain ⟨g', s, e, -, -, hf, hset⟩ := grow_at h.row hi
  injection e with e
  injection e with e
  subst e
  obtain ⟨cur, hc⟩ := grow_obj h.row
  have hne : hb ≠ g := fun e' => by
    have := h.obj
    rw [e', hc] at this
    injection this with this
    injection this with _ this
    exact absurd this (by decide)
  have hg := (own_in h.row _ rfl).1
  refine ⟨⟨h.low, ?_, hset u, ((Kp.of_below h.bel).set g i u.val (by show ¬ g < _; have : (⟨g, 0, none⟩ : Addr).block = g := rfl; omega)).below (fun _ hk => hk), fun s hs => ?_⟩, (Bes.refl W).set hc (by decide), hf⟩
  · rw [Below.heap_setCell W ⟨g, i, none⟩ u.val hb hne, List.length_set]
    exact h.obj
  · rcases List.mem_or_eq_of_mem_set hs with q | q
    · exact h.ins s q
    · exact q ▸ hu
set_option maxRecDepth 100000 in
set_option maxHeartbeats 8000000 in
theorem swap_any {w0 W : World} {hb : Nat} {A : Option Addr} {c : Nat} {T : List Gl} (h : Hp w0 W hb A c T) (i k : Nat) (hi : i < T.length) (hk : k < T.length) : Calls Try.prog 97 #[.pointer (some ⟨hb, 0, none⟩), .int .i64 i, .int .i64 k] W fun e w' => e = .returned (.tuple #[]) ∧ Hp w0 w' hb A c (swapL T i k) ∧ Bes W w' := by
  obtain ⟨n, hn⟩ : ∃ n, T.length = n := ⟨_, rfl⟩
  have hs := List.getElem?_eq_getElem hi
  have hp := List.getElem?_eq_getElem hk
  generalize T[i] = s at hs
  generalize T[k] = p at hp
  obtain ⟨g, rfl, a1⟩ := h.at_ hs
  obtain ⟨g2, e2, a2⟩ := h.at_ hp
  injection e2 with e2
  injection e2 with e2
  subst e2
  have c0 := h.cells.1
  rw [hn] at c0
  obtain ⟨H1, B1, f1⟩ := h.set (u := p) hi (h.ins p (List.mem_of_getElem? hp))
  obtain ⟨H2, B2, f2⟩ := H1.set (i := k) (u := s) (by rw [List.length_set]; exact hk) (h.ins s (List.mem_of_getElem? hs))
  have HE : Hid (Hp w0 (((W.setCell ⟨g, i, none⟩ p.val).setCell ⟨g, k, none⟩ s.val).drew) hb (some ⟨g, 0, none⟩) c (swapL T i k) ∧ Bes W (((W.setCell ⟨g, i, none⟩ p.val).setCell ⟨g, k, none⟩ s.val).drew)) := Lib.hid ⟨by
    have e : swapL T i k = (T.set i p).set k s := by unfold swapL; rw [hs, hp]
    rw [e]
    exact H2.kept (Below.refl _ _).drew, B1.trans B2⟩
  have HSC : Hid (((W.setCell ⟨g, i, none⟩ p.val).drew.cell? ⟨hb, 0, none⟩ = some (.slice (some ⟨g, 0, none⟩) n c)) ∧ (((W.setCell ⟨g, i, none⟩ p.val).setCell ⟨g, k, none⟩ s.val).drew.cell? ⟨hb, 0, none⟩ = some (.slice (some ⟨g, 0, none⟩) n c))) := Lib.hid (by
    have q1 := H1.cells.1
    have q2 := H2.cells.1
    rw [List.length_set, hn] at q1
    rw [List.length_set, List.length_set, hn] at q2
    exact ⟨q1, q2⟩)
  have hcell2 : ∃ v, (W.setCell ⟨g, i, none⟩ p.val).cell? ⟨g, k, none⟩ = some v := by
    obtain ⟨g3, s3, e3, -, k3, -⟩ := grow_at H1.row (k := k) (by rw [List.length_set]; exact hk)
    injection e3 with e3
    injection e3 with e3
    subst e3
    exact ⟨_, k3⟩
  obtain ⟨v2, hv2⟩ := hcell2
  have HFZ : Hid ((W.setCell ⟨g, i, none⟩ p.val).cell? ⟨g, k, none⟩ = some v2 ∧ (W.setCell ⟨g, i, none⟩ p.val).frozen? ⟨g, k, none⟩ = false) := Lib.hid ⟨hv2, f2⟩
  have i0 : (i : Int) < n := by omega
  have k0 : (k : Int) < n := by omega
  obtain ⟨sv, hsv⟩ : ∃ v, s.val = v := ⟨_, rfl⟩
  obtain ⟨pv, hpv⟩ : ∃ v, p.val = v := ⟨_, rfl⟩
  have o1 : ∃ a b d, sv = .slice a b d := ⟨_, _, _, hsv.symm⟩
  have o2 : ∃ a b d, pv = .slice a b d := ⟨_, _, _, hpv.symm⟩
  rw [hsv] at HE HSC a1
  rw [hpv] at HE HSC HFZ a2
  clear h hs hp hn hi hk H1 H2 B1 B2 f2 hv2 hsv hpv
  obtain ⟨sa, sn, sc, rfl⟩ := o1
  obtain ⟨pa, pn, pc, rfl⟩ := o2
  go_enter Try.func97, Try.ntmps97
  go_upto_region 0 with fail
  refine wp_region_noPanic ?_
  refine wp_region_held (S := fun V => V.cell? ⟨hb, 0, none⟩ = some (.slice (some ⟨g, 0, none⟩) n c)) (by kernel_rfl) ?_
  change wpAnyH _ _ _ _ _ _ _ _ (World.drew _)
  have s0 : (fun V : World => V.cell? ⟨hb, 0, none⟩ = some (.slice (some ⟨g, 0, none⟩) n c)) W.drew := c0
  refine wpAnyH_take (i := 0) (v := .pointer (some ⟨hb, 0, none⟩)) rfl (by kernel_rfl) (by kernel_rfl) (by kernel_rfl) (fun _ _ _ h => h) (Or.inl ⟨by first | kernel_rfl | rfl, fun _ hS => by go_simp⟩) s0 ?_
  try simp only [Act.put, List.getElem_toArray, List.getElem_cons_zero, List.getElem_cons_succ, List.setIfInBounds_toArray, List.set_cons_zero, List.set_cons_succ]
  refine wpAnyH_take (i := 1) (v := .pointer (some ⟨hb, 0, none⟩)) rfl (by kernel_rfl) (by kernel_rfl) (by kernel_rfl) (fun _ _ _ h => h) (Or.inl ⟨by first | kernel_rfl | rfl, fun _ hS => by go_simp⟩) s0 ?_
  try simp only [Act.put, List.getElem_toArray, List.getElem_cons_zero, List.getElem_cons_succ, List.setIfInBounds_toArray, List.set_cons_zero, List.set_cons_succ]
  refine wpAnyH_take (i := 2) (v := .pointer (some ⟨hb, 0, none⟩)) rfl (by kernel_rfl) (by kernel_rfl) (by kernel_rfl) (fun _ _ _ h => h) (Or.inl ⟨by first | kernel_rfl | rfl, fun _ hS => by go_simp⟩) s0 ?_
  try simp only [Act.put, List.getElem_toArray, List.getElem_cons_zero, List.getElem_cons_succ, List.setIfInBounds_toArray, List.set_cons_zero, List.set_cons_succ]
  refine wpAnyH_take (i := 3) (v := .slice (some ⟨g, 0, none⟩) n c) rfl (by kernel_rfl) (by kernel_rfl) (by kernel_rfl) (fun _ _ _ h => h) (Or.inl ⟨by first | kernel_rfl | rfl, fun _ hS => by have k1 := hS; go_simp⟩) s0 ?_
  try simp only [Act.put, List.getElem_toArray, List.getElem_cons_zero, List.getElem_cons_succ, List.setIfInBounds_toArray, List.set_cons_zero, List.set_cons_succ]
  refine wpAnyH_take (i := 4) (v := .int .i64 (i : Int)) rfl (by kernel_rfl) (by kernel_rfl) (by kernel_rfl) (fun _ _ _ h => h) (Or.inl ⟨by first | kernel_rfl | rfl, fun _ hS => by go_simp⟩) s0 ?_
  try simp only [Act.put, List.getElem_toArray, List.getElem_cons_zero, List.getElem_cons_succ, List.setIfInBounds_toArray, List.set_cons_zero, List.set_cons_succ]
  refine wpAnyH_take (i := 5) (v := .pointer (some ⟨hb, 0, none⟩)) rfl (by kernel_rfl) (by kernel_rfl) (by kernel_rfl) (fun _ _ _ h => h) (Or.inl ⟨by first | kernel_rfl | rfl, fun _ hS => by go_simp⟩) s0 ?_
  try simp only [Act.put, List.getElem_toArray, List.getElem_cons_zero, List.getElem_cons_succ, List.setIfInBounds_toArray, List.set_cons_zero, List.set_cons_succ]
  refine wpAnyH_take (i := 6) (v := .pointer (some ⟨hb, 0, none⟩)) rfl (by kernel_rfl) (by kernel_rfl) (by kernel_rfl) (fun _ _ _ h => h) (Or.inl ⟨by first | kernel_rfl | rfl, fun _ hS => by go_simp⟩) s0 ?_
  try simp only [Act.put, List.getElem_toArray, List.getElem_cons_zero, List.getElem_cons_succ, List.setIfInBounds_toArray, List.set_cons_zero, List.set_cons_succ]
  refine wpAnyH_take (i := 7) (v := .pointer (some ⟨hb, 0, none⟩)) rfl (by kernel_rfl) (by kernel_rfl) (by kernel_rfl) (fun _ _ _ h => h) (Or.inl ⟨by first | kernel_rfl | rfl, fun _ hS => by go_simp⟩) s0 ?_
  try simp only [Act.put, List.getElem_toArray, List.getElem_cons_zero, List.getElem_cons_succ, List.setIfInBounds_toArray, List.set_cons_zero, List.set_cons_succ]
  refine wpAnyH_take (i := 8) (v := .slice (some ⟨g, 0, none⟩) n c) rfl (by kernel_rfl) (by kernel_rfl) (by kernel_rfl) (fun _ _ _ h => h) (Or.inl ⟨by first | kernel_rfl | rfl, fun _ hS => by have k1 := hS; go_simp⟩) s0 ?_
  try simp only [Act.put, List.getElem_toArray, List.getElem_cons_zero, List.getElem_cons_succ, List.setIfInBounds_toArray, List.set_cons_zero, List.set_cons_succ]
  refine wpAnyH_take (i := 9) (v := .int .i64 (k : Int)) rfl (by kernel_rfl) (by kernel_rfl) (by kernel_rfl) (fun _ _ _ h => h) (Or.inl ⟨by first | kernel_rfl | rfl, fun _ hS => by go_simp⟩) s0 ?_
  try simp only [Act.put, List.getElem_toArray, List.getElem_cons_zero, List.getElem_cons_succ, List.setIfInBounds_toArray, List.set_cons_zero, List.set_cons_succ]
  refine wpAnyH_take (i := 10) (v := .pointer (some ⟨hb, 0, none⟩)) rfl (by kernel_rfl) (by kernel_rfl) (by kernel_rfl) (fun _ _ _ h => h) (Or.inl ⟨by first | kernel_rfl | rfl, fun _ hS => by go_simp⟩) s0 ?_
  try simp only [Act.put, List.getElem_toArray, List.getElem_cons_zero, List.getElem_cons_succ, List.setIfInBounds_toArray, List.set_cons_zero, List.set_cons_succ]
  refine wpAnyH_take (i := 11) (v := .pointer (some ⟨hb, 0, none⟩)) rfl (by kernel_rfl) (by kernel_rfl) (by kernel_rfl) (fun _ _ _ h => h) (Or.inl ⟨by first | kernel_rfl | rfl, fun _ hS => by go_simp⟩) s0 ?_
  try simp only [Act.put, List.getElem_toArray, List.getElem_cons_zero, List.getElem_cons_succ, List.setIfInBounds_toArray, List.set_cons_zero, List.set_cons_succ]
  refine wpAnyH_take (i := 12) (v := .pointer (some ⟨hb, 0, none⟩)) rfl (by kernel_rfl) (by kernel_rfl) (by kernel_rfl) (fun _ _ _ h => h) (Or.inl ⟨by first | kernel_rfl | rfl, fun _ hS => by go_simp⟩) s0 ?_
  try simp only [Act.put, List.getElem_toArray, List.getElem_cons_zero, List.getElem_cons_succ, List.setIfInBounds_toArray, List.set_cons_zero, List.set_cons_succ]
  refine wpAnyH_take (i := 13) (v := .slice (some ⟨g, 0, none⟩) n c) rfl (by kernel_rfl) (by kernel_rfl) (by kernel_rfl) (fun _ _ _ h => h) (Or.inl ⟨by first | kernel_rfl | rfl, fun _ hS => by have k1 := hS; go_simp⟩) s0 ?_
  try simp only [Act.put, List.getElem_toArray, List.getElem_cons_zero, List.getElem_cons_succ, List.setIfInBounds_toArray, List.set_cons_zero, List.set_cons_succ]
  refine wpAnyH_take (i := 14) (v := .int .i64 (k : Int)) rfl (by kernel_rfl) (by kernel_rfl) (by kernel_rfl) (fun _ _ _ h => h) (Or.inl ⟨by first | kernel_rfl | rfl, fun _ hS => by go_simp⟩) s0 ?_
  try simp only [Act.put, List.getElem_toArray, List.getElem_cons_zero, List.getElem_cons_succ, List.setIfInBounds_toArray, List.set_cons_zero, List.set_cons_succ]
  refine wpAnyH_take (i := 17) (v := .pointer (some ⟨hb, 0, none⟩)) rfl (by kernel_rfl) (by kernel_rfl) (by kernel_rfl) (fun _ _ _ h => h) (Or.inl ⟨by first | kernel_rfl | rfl, fun _ hS => by go_simp⟩) s0 ?_
  try simp only [Act.put, List.getElem_toArray, List.getElem_cons_zero, List.getElem_cons_succ, List.setIfInBounds_toArray, List.set_cons_zero, List.set_cons_succ]
  refine wpAnyH_take (i := 18) (v := .pointer (some ⟨hb, 0, none⟩)) rfl (by kernel_rfl) (by kernel_rfl) (by kernel_rfl) (fun _ _ _ h => h) (Or.inl ⟨by first | kernel_rfl | rfl, fun _ hS => by go_simp⟩) s0 ?_
  try simp only [Act.put, List.getElem_toArray, List.getElem_cons_zero, List.getElem_cons_succ, List.setIfInBounds_toArray, List.set_cons_zero, List.set_cons_succ]
  refine wpAnyH_take (i := 19) (v := .pointer (some ⟨hb, 0, none⟩)) rfl (by kernel_rfl) (by kernel_rfl) (by kernel_rfl) (fun _ _ _ h => h) (Or.inl ⟨by first | kernel_rfl | rfl, fun _ hS => by go_simp⟩) s0 ?_
  try simp only [Act.put, List.getElem_toArray, List.getElem_cons_zero, List.getElem_cons_succ, List.setIfInBounds_toArray, List.set_cons_zero, List.set_cons_succ]
  refine wpAnyH_take (i := 20) (v := .slice (some ⟨g, 0, none⟩) n c) rfl (by kernel_rfl) (by kernel_rfl) (by kernel_rfl) (fun _ _ _ h => h) (Or.inl ⟨by first | kernel_rfl | rfl, fun _ hS => by have k1 := hS; go_simp⟩) s0 ?_
  try simp only [Act.put, List.getElem_toArray, List.getElem_cons_zero, List.getElem_cons_succ, List.setIfInBounds_toArray, List.set_cons_zero, List.set_cons_succ]
  refine wpAnyH_take (i := 21) (v := .int .i64 (i : Int)) rfl (by kernel_rfl) (by kernel_rfl) (by kernel_rfl) (fun _ _ _ h => h) (Or.inl ⟨by first | kernel_rfl | rfl, fun _ hS => by go_simp⟩) s0 ?_
  try simp only [Act.put, List.getElem_toArray, List.getElem_cons_zero, List.getElem_cons_succ, List.setIfInBounds_toArray, List.set_cons_zero, List.set_cons_succ]
  refine wpAnyH_take (i := 15) (v := .pointer (some ⟨g, k, none⟩)) rfl (by kernel_rfl) (by kernel_rfl) (by kernel_rfl) (fun _ _ _ h => h) (Or.inl ⟨by first | kernel_rfl | rfl, fun _ hS => by go_simp⟩) s0 ?_
  try simp only [Act.put, List.getElem_toArray, List.getElem_cons_zero, List.getElem_cons_succ, List.setIfInBounds_toArray, List.set_cons_zero, List.set_cons_succ]
  refine wpAnyH_take (i := 22) (v := .pointer (some ⟨g, i, none⟩)) rfl (by kernel_rfl) (by kernel_rfl) (by kernel_rfl) (fun _ _ _ h => h) (Or.inl ⟨by first | kernel_rfl | rfl, fun _ hS => by go_simp⟩) s0 ?_
  try simp only [Act.put, List.getElem_toArray, List.getElem_cons_zero, List.getElem_cons_succ, List.setIfInBounds_toArray, List.set_cons_zero, List.set_cons_succ]
  refine wpAnyH_ready (rs := [16, 23]) (by kernel_rfl) (by simp) ?_
  refine AllReadyH.cons rfl (fun K hK => ?_) (AllReadyH.cons rfl (fun K hK => ?_) AllReadyH.nil)
  · go_simp
    refine hK.out _ _ s0 (fun _ => ?_)
    clear hK K
    try simp only [Act.put, List.getElem_toArray, List.getElem_cons_zero, List.getElem_cons_succ, List.setIfInBounds_toArray, List.set_cons_zero, List.set_cons_succ]
    refine wpAnyH_ready (rs := [23]) (by kernel_rfl) (by simp) ?_
    refine AllReadyH.cons rfl (fun K hK => ?_) AllReadyH.nil
    go_simp
    refine hK.out _ _ s0 (fun _ => ?_)
    clear hK K
    try simp only [Act.put, List.getElem_toArray, List.getElem_cons_zero, List.getElem_cons_succ, List.setIfInBounds_toArray, List.set_cons_zero, List.set_cons_succ]
    refine wpAnyH_take (i := 24) (v := .pointer (some ⟨g, i, none⟩)) rfl (by kernel_rfl) (by kernel_rfl) (by kernel_rfl) (fun _ _ _ h => h) (Or.inl ⟨by first | kernel_rfl | rfl, fun _ hS => by go_simp⟩) s0 ?_
    try simp only [Act.put, List.getElem_toArray, List.getElem_cons_zero, List.getElem_cons_succ, List.setIfInBounds_toArray, List.set_cons_zero, List.set_cons_succ]
    refine wpAnyH_ready (rs := [25]) (by kernel_rfl) (by simp) ?_
    refine AllReadyH.cons rfl (fun K hK => ?_) AllReadyH.nil
    go_simp
    refine hK.out _ _ HSC.out.1 (fun _ => ?_)
    clear hK K
    try simp only [Act.put, List.getElem_toArray, List.getElem_cons_zero, List.getElem_cons_succ, List.setIfInBounds_toArray, List.set_cons_zero, List.set_cons_succ]
    refine wpAnyH_take (i := 26) (v := .pointer (some ⟨g, k, none⟩)) rfl (by kernel_rfl) (by kernel_rfl) (by kernel_rfl) (fun _ _ _ h => h) (Or.inl ⟨by first | kernel_rfl | rfl, fun _ hS => by go_simp⟩) HSC.out.1 ?_
    try simp only [Act.put, List.getElem_toArray, List.getElem_cons_zero, List.getElem_cons_succ, List.setIfInBounds_toArray, List.set_cons_zero, List.set_cons_succ]
    obtain ⟨f3, f4⟩ := HFZ.out
    refine wpAnyH_ready (rs := [27]) (by kernel_rfl) (by simp) ?_
    refine AllReadyH.cons rfl (fun K hK => ?_) AllReadyH.nil
    go_simp
    refine hK.out _ _ HSC.out.2 (fun _ => ?_)
    clear hK K
    try simp only [Act.put, List.getElem_toArray, List.getElem_cons_zero, List.getElem_cons_succ, List.setIfInBounds_toArray, List.set_cons_zero, List.set_cons_succ]
    refine wpAnyH_done (by kernel_rfl) (NoPanic.normal ?_) _
    try simp only [Act.put, List.getElem_toArray, List.getElem_cons_zero, List.getElem_cons_succ, List.setIfInBounds_toArray, List.set_cons_zero, List.set_cons_succ]
    go_wp2_with fail
    go_end0
    exact ⟨rfl, HE.out⟩
  · go_simp
    refine hK.out _ _ s0 (fun _ => ?_)
    clear hK K
    try simp only [Act.put, List.getElem_toArray, List.getElem_cons_zero, List.getElem_cons_succ, List.setIfInBounds_toArray, List.set_cons_zero, List.set_cons_succ]
    refine wpAnyH_ready (rs := [16]) (by kernel_rfl) (by simp) ?_
    refine AllReadyH.cons rfl (fun K hK => ?_) AllReadyH.nil
    go_simp
    refine hK.out _ _ s0 (fun _ => ?_)
    clear hK K
    try simp only [Act.put, List.getElem_toArray, List.getElem_cons_zero, List.getElem_cons_succ, List.setIfInBounds_toArray, List.set_cons_zero, List.set_cons_succ]
    refine wpAnyH_take (i := 24) (v := .pointer (some ⟨g, i, none⟩)) rfl (by kernel_rfl) (by kernel_rfl) (by kernel_rfl) (fun _ _ _ h => h) (Or.inl ⟨by first | kernel_rfl | rfl, fun _ hS => by go_simp⟩) s0 ?_
    try simp only [Act.put, List.getElem_toArray, List.getElem_cons_zero, List.getElem_cons_succ, List.setIfInBounds_toArray, List.set_cons_zero, List.set_cons_succ]
    refine wpAnyH_ready (rs := [25]) (by kernel_rfl) (by simp) ?_
    refine AllReadyH.cons rfl (fun K hK => ?_) AllReadyH.nil
    go_simp
    refine hK.out _ _ HSC.out.1 (fun _ => ?_)
    clear hK K
    try simp only [Act.put, List.getElem_toArray, List.getElem_cons_zero, List.getElem_cons_succ, List.setIfInBounds_toArray, List.set_cons_zero, List.set_cons_succ]
    refine wpAnyH_take (i := 26) (v := .pointer (some ⟨g, k, none⟩)) rfl (by kernel_rfl) (by kernel_rfl) (by kernel_rfl) (fun _ _ _ h => h) (Or.inl ⟨by first | kernel_rfl | rfl, fun _ hS => by go_simp⟩) HSC.out.1 ?_
    try simp only [Act.put, List.getElem_toArray, List.getElem_cons_zero, List.getElem_cons_succ, List.setIfInBounds_toArray, List.set_cons_zero, List.set_cons_succ]
    obtain ⟨f3, f4⟩ := HFZ.out
    refine wpAnyH_ready (rs := [27]) (by kernel_rfl) (by simp) ?_
    refine AllReadyH.cons rfl (fun K hK => ?_) AllReadyH.nil
    go_simp
    refine hK.out _ _ HSC.out.2 (fun _ => ?_)
    clear hK K
    try simp only [Act.put, List.getElem_toArray, List.getElem_cons_zero, List.getElem_cons_succ, List.setIfInBounds_toArray, List.set_cons_zero, List.set_cons_succ]
    refine wpAnyH_done (by kernel_rfl) (NoPanic.normal ?_) _
    try simp only [Act.put, List.getElem_toArray, List.getElem_cons_zero, List.getElem_cons_succ, List.setIfInBounds_toArray, List.set_cons_zero, List.set_cons_succ]
    go_wp2_with fail
    go_end0
    exact ⟨rfl, HE.out⟩
end Go.Proofs.Ytcffpkflijpdjaa
namespace Go.Proofs.Ytcffpkflijpdjaa
open Go.RowKit
/-- As their first entries stand. -/
def leG (s t : Gl) : Prop := leE (hdE s) (hdE t)
theorem leG_trans (a b c : Gl) (h : leG a b) (k : leG b c) : leG a c := leE_trans _ _ _ h k
theorem leG_refl (a : Gl) : leG a a := leE_refl _
theorem lit_g (w : World) (a : Option Addr) (n c : Nat) (l : List En) (hn : l.length = n) : Lies (w.alloc (.cells #[.slice a n c] 22)) (some ⟨w.heap.size, 0, none⟩) (gvals [⟨a, c, l⟩]) := by
  subst hn
  refine .inr ⟨_, rfl, fun j u hu => ?_⟩
  have hj : j = 0 := by
    have := (List.getElem?_eq_some_iff.1 hu).1
    simp [gvals] at this
    omega
  subst hj
  simp [gvals, Gl.val] at hu
  subst hu
  have := heap_alloc_new w (.cells #[.slice a l.length c] 22)
  have e : (⟨w.heap.size, 0, none⟩ : Addr).add 0 = ⟨w.heap.size, 0, none⟩ := rfl
  rw [e]
  simp only [World.cell?, this]
  rfl
theorem Hp.grown {w0 W w8 : World} {hb c c' : Nat} {A A' : Option Addr} {T : List Gl} {x : Gl} {o : Obj} (h : Hp w0 W hb A c T) (hx : GIn w0 x) (hr : Grow w8 w0.heap.size A' c' (T ++ [x])) (hbel : Below w0.heap.size (W.alloc o) w8) (hg : (W.alloc o).grownBy w8 (Value.slice A T.length c).ownBlock) :
    (w8.cell? ⟨hb, 0, none⟩ = some (.slice A T.length c) ∧ w8.frozen? ⟨hb, 0, none⟩ = false) ∧ Hp w0 (w8.setCell ⟨hb, 0, none⟩ (.slice A' (T.length + 1) c')) hb A' c' (T ++ [x]) ∧ Bes W (w8.setCell ⟨hb, 0, none⟩ (.slice A' (T.length + 1) c')) := by
  have hlt := (Array.getElem?_eq_some_iff.1 h.obj).1
  have hoth : ∀ (j : Nat) (cs : Array Value) (ty : TypeId) (fr : Nat × Nat), W.heap[j]? = some (.cells cs ty fr) → ty ≠ 22 → w8.heap[j]? = some (.cells cs ty fr) := fun j cs ty fr e ht => by
    have hj := (Array.getElem?_eq_some_iff.1 e).1
    rw [hg.block j (by rw [World.size_alloc]; omega) (fun e' => ?_), RowKit.Below.heap_alloc _ _ _ hj, e]
    rcases h.row.2 with ⟨q, _⟩ | ⟨g', cap, cur, q, _, h2, _⟩
    · rw [q] at e'
      simp [Value.ownBlock] at e'
    · rw [q] at e'
      have : j = g' := by simpa [Value.ownBlock] using e'
      subst this
      rw [h2] at e
      injection e with e
      injection e with _ e
      exact ht e.symm
  have ho := hoth hb _ _ _ h.obj (by decide)
  have hne : ∀ ad, A' = some ad → ad.block ≠ hb := fun ad ha e => by
    subst ha
    rcases hr.2 with ⟨q, _⟩ | ⟨g', cap, cur, q, _, h2, _⟩
    · cases q
    · injection q with q
      injection q with q
      subst q
      rw [show g' = hb from e, ho] at h2
      injection h2 with h2
      injection h2 with _ h2
      exact absurd h2 (by decide)
  refine ⟨⟨by simp [World.cell?, ho], by simp [World.frozen?, ho]⟩, ⟨h.low, ?_, ?_, ?_, fun s hs => ?_⟩, ?_⟩
  · rw [List.length_append, List.length_singleton]
    simp [World.setCell, Array.getElem?_modify, ho]
  · exact own_kp hr ((Kp.refl (fun j => j ≠ hb) w8).set hb 0 _ (by simp)) (fun ad ha => hne ad ha)
  · have b := ((h.bel.alloc h.bel.size o).trans hbel)
    exact ((Kp.of_below b).set hb 0 _ (by have := h.low; omega)).below (fun _ hk => hk)
  · rcases List.mem_append.1 hs with q | q
    · exact h.ins s q
    · rw [List.mem_singleton.1 q]; exact hx
  · have hB : Bes W w8 := ⟨by have := hg.size; rw [World.size_alloc] at this; omega, fun g cs fr e => hoth g cs _ fr e (by decide)⟩
    exact hB.set ho (by decide)
set_option maxRecDepth 100000 in
set_option maxHeartbeats 8000000 in
theorem put_any {w0 W : World} {hb : Nat} {A : Option Addr} {c : Nat} {T : List Gl} (h : Hp w0 W hb A c T) (hq : Heaped leG T) (x : Gl) (hx : GIn w0 x) (h9 : (T.length + 1) * 24 ≤ 140737488355328) : Calls Try.prog 82 #[.pointer (some ⟨hb, 0, none⟩), x.val] W fun e w' => e = .returned (.tuple #[]) ∧ ∃ (A' : Option Addr) (c' : Nat) (T' : List Gl), Hp w0 w' hb A' c' T' ∧ Heaped leG T' ∧ T'.Perm (T ++ [x]) ∧ Bes W w' := by
  have HH := Lib.hid h
  have HX := Lib.hid hx
  have HQ := Lib.hid hq
  obtain ⟨n, hn⟩ : ∃ n, T.length = n := ⟨_, rfl⟩
  have HN := Lib.hid hn
  have c0 := h.cells.1
  rw [hn] at c0 h9
  have HROW := Lib.hid h.row
  obtain ⟨xa, xc, xl⟩ := x
  unfold Gl.val
  obtain ⟨xn, hxn⟩ : ∃ m, xl.length = m := ⟨_, rfl⟩
  simp only
  rw [hxn]
  have HXN := Lib.hid hxn
  have HLOW : Hid (w0.heap.size ≤ W.heap.size) := Lib.hid h.bel.size
  clear h hx hq hn hxn
  go_enter Try.func82, Try.ntmps82
  go_upto_region 0 with fail
  go_upto_region 1 with (refine wpList_append_grow _ (by rfl) (.tmp 9) (.tmp 11) (by rfl) w0.heap.size A c T [⟨xa, xc, xl⟩] _ n 1 1 (by simp [Act.eval]) (by simp [Act.eval]) HN.out rfl (HROW.out.alloc _) (lit_g W xa xn xc xl HXN.out) (by have := HLOW.out; simp; omega) (by have := HN.out; simp only [List.length_singleton]; omega) ?_; intro A8 c8 w8 r8 b8 g8; rw [← HN.out] at g8; have hG := HH.out.grown HX.out r8 b8 g8; rw [HN.out] at hG; obtain ⟨⟨d0, f0⟩, hG⟩ := hG; have HG := Lib.hid hG; clear r8 b8 g8 hG)
  clear d0 f0 c0
  obtain ⟨w9, hw9⟩ : ∃ w9, w8.setCell ⟨hb, 0, none⟩ (.slice A8 (n + 1) c8) = w9 := ⟨_, rfl⟩
  rw [hw9] at HG ⊢
  clear hw9
  obtain ⟨U, hU⟩ : ∃ U, T ++ [(⟨xa, xc, xl⟩ : Gl)] = U := ⟨_, rfl⟩
  have HU := Lib.hid hU
  rw [hU] at HG
  have HUL : Hid (U.length = n + 1) := Lib.hid (by rw [← hU, List.length_append, HN.out]; rfl)
  have HUP : Hid (HeapUp leG U n) := Lib.hid (by rw [← hU, ← HN.out]; exact heaped_up HQ.out _)
  clear hU
  have w1 : wrap64 ((n : Int) + 1 - 1) = (n : Int) := by unfold wrap64; omega
  have w2 : wrap64 (((n + 1 : Nat) : Int) - 1) = (n : Int) := by unfold wrap64; omega
  go_wp2_with (go_at_call 83; refine (hlen_any HG.out.1).mono ?_; rw [HUL.out]; rintro e w' ⟨rfl, hw'⟩; subst hw')
  try rw [w1]
  try rw [w2]
  clear w1 w2
  go_loopw [4] (fun t4 wr => ∃ (k : Nat) (A2 : Option Addr) (c2 : Nat) (T2 : List Gl), t4 = .int .i64 k ∧ Hid (Hp w0 wr hb A2 c2 T2 ∧ HeapUp leG T2 k ∧ T2.Perm U ∧ k ≤ n ∧ Bes W wr)) (fun t4 _ => (intOf t4).toNat)
  case atStart => exact ⟨n, A8, c8, U, rfl, Lib.hid ⟨HG.out.1, HUP.out, List.Perm.refl _, Nat.le_refl _, HG.out.2⟩⟩
  case round =>
    obtain ⟨k, A2, c2, T2, rfl, hr⟩ := hrel
    have HL2 : Hid (T2.length = n + 1) := Lib.hid (by rw [hr.out.2.2.1.length_eq, HUL.out])
    by_cases hk : k = 0
    · have z1 : ¬ (0 : Int) < k := by omega
      have z2 : ¬ 0 < k := by omega
      have HK := Lib.hid hk
      clear hk
      go_wp2_with fail
      go_end0
      exact ⟨rfl, A2, c2, T2, hr.out.1, up_done hr.out.2.1 (fun _ _ h0 => by have := HK.out; omega), by rw [HU.out]; exact hr.out.2.2.1, hr.out.2.2.2.2⟩
    · have z1 : (0 : Int) < k := by omega
      have z2 : 0 < k := by omega
      have z3 : (k : Int) ≤ 4611686018427387904 := by have := hr.out.2.2.2.1; omega
      have HZ := Lib.hid (And.intro z2 z3)
      obtain ⟨m, hm⟩ : ∃ m, (k - 1) / 2 = m := ⟨_, rfl⟩
      have HM := Lib.hid hm
      have HMK : Hid (m < k ∧ k < T2.length ∧ m < T2.length) := Lib.hid (by have := hr.out.2.2.2.1; have := HL2.out; omega)
      have hs := List.getElem?_eq_getElem (l := T2) (i := k) HMK.out.2.1
      have hp := List.getElem?_eq_getElem (l := T2) (i := m) HMK.out.2.2
      generalize T2[k]'HMK.out.2.1 = s at hs
      generalize T2[m]'HMK.out.2.2 = p at hp
      have HSP := Lib.hid (And.intro hs hp)
      clear hs hp z3 hm
      by_cases hd : ordE (hdE s) (hdE p) < 0
      · have HD := Lib.hid hd
        have hdd : decide (ordE (hdE s) (hdE p) < 0) = true := decide_eq_true hd
        have HDD := Lib.hid hdd
        clear hd hdd
        go_wp2_with (first
          | (go_at_call 96; refine (parent_any k _ HZ.out.1 HZ.out.2).mono ?_; rw [HM.out]; rintro e w' ⟨rfl, hw'⟩; subst hw')
          | (go_at_call 95; refine (isAhead_any hr.out.1 k m s p HSP.out.1 HSP.out.2).mono ?_; rw [HDD.out]; rintro e w5 ⟨rfl, b5⟩; have B5 := Lib.hid b5; have H5 : Hid (Hp w0 w5 hb A2 c2 T2) := Lib.hid (hr.out.1.kept b5); clear b5)
          | (go_at_call 97; refine (swap_any H5.out k m HMK.out.2.1 HMK.out.2.2).mono ?_; rintro e w6 ⟨rfl, h6, b6⟩; have H6 : Hid (Hp w0 w6 hb A2 c2 (swapL T2 k m) ∧ Bes W w6) := Lib.hid ⟨h6, hr.out.2.2.2.2.trans ((Bes.of_below B5.out).trans b6)⟩; clear h6 b6))
        go_roundw
        case rel => exact ⟨m, A2, c2, swapL T2 k m, by go_num, Lib.hid ⟨H6.out.1, by have := up_step leG_trans hr.out.2.1 HZ.out.1 HSP.out.1 (by rw [HM.out]; exact HSP.out.2) (by have := HD.out; unfold leG leE; omega); rwa [HM.out] at this, (swapL_perm HMK.out.2.1 HMK.out.2.2).trans hr.out.2.2.1, by have := HMK.out.1; have := hr.out.2.2.2.1; omega, H6.out.2⟩⟩
        case measure => have := HMK.out.1; simp [intOf]; omega
      · have hdd : decide (ordE (hdE s) (hdE p) < 0) = false := decide_eq_false hd
        have HD := Lib.hid hd
        have HDD := Lib.hid hdd
        clear hd hdd
        go_wp2_with (first
          | (go_at_call 96; refine (parent_any k _ HZ.out.1 HZ.out.2).mono ?_; rw [HM.out]; rintro e w' ⟨rfl, hw'⟩; subst hw')
          | (go_at_call 95; refine (isAhead_any hr.out.1 k m s p HSP.out.1 HSP.out.2).mono ?_; rw [HDD.out]; rintro e w5 ⟨rfl, b5⟩; have B5 := Lib.hid b5; have H5 : Hid (Hp w0 w5 hb A2 c2 T2) := Lib.hid (hr.out.1.kept b5); clear b5))
        go_end0
        exact ⟨rfl, A2, c2, T2, H5.out, up_done hr.out.2.1 (fun s' p' _ h1 h2 => by
          rw [HSP.out.1] at h1
          rw [HM.out, HSP.out.2] at h2
          injection h1 with h1
          injection h2 with h2
          subst h1 h2
          exact not_ahead (by have := HD.out; omega)), by rw [HU.out]; exact hr.out.2.2.1, hr.out.2.2.2.2.trans (Bes.of_below B5.out)⟩
end Go.Proofs.Ytcffpkflijpdjaa
