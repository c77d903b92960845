/-
  A law for a loop over an iterator of the program's own: the iterator tells each round what lies in memory. A key looked for in a table: what stands while it is looked for, and behind it. Plain: a list with towers: what stands at each height leads on to what is behind; the lowest leads to all. Plain: an entry is put among those of a list with towers. Memory: rows of nodes, sixteen cells each; rows of numbers. Walks: a table in memory; what follows at the lowest height; is it ahead. Walks: is a node ahead of an entry; how many there are.
-/
import Derived.RangeFuncNested
import Derived.RangeFuncBound
import Derived.RangeFuncCalls
import Derived.RangeFuncLeaves
import Derived.Shelf.Abstract
import Derived.Shelf.RegionOpen
import Derived.OwnWalkIn
import Derived.TacticsInMore
import Derived.LoopNIn
import Derived.LoopIn
import Derived.Laws.EntriesVeiled
import Derived.Test.YtkodhlaojlgejaaJ00
import Derived.Test.YtkodhlaojlgejaaJ01
import Derived.Test.YtkodhlaojlgejaaJ02
import Derived.Test.YtkodhlaojlgejaaJ03
import Derived.Test.YtkodhlaojlgejaaJ04
import Derived.Test.YtkodhlaojlgejaaJ05
import Derived.Test.YtkodhlaojlgejaaJ06
import Derived.Test.YtkodhlaojlgejaaJ07
import Derived.Test.YtkodhlaojlgejaaJ08
import Derived.Test.YtkodhlaojlgejaaJ09
import Derived.Test.YtkodhlaojlgejaaJ10
import Derived.Test.YtkodhlaojlgejaaJ11
import Derived.Test.YtkodhlaojlgejaaJ12
set_option linter.unusedSimpArgs false
set_option linter.unusedVariables false
namespace Go.Proofs.Ytkodhlaojlgejaa
open Go.RowKit
/-- The two blocks that a loop lays. -/
theorem two_laid (w : World) (d l : Obj) : ((w.alloc d).alloc l).heap[w.heap.size]? = some d ∧ ((w.alloc d).alloc l).heap[w.heap.size + 1]? = some l := by
  have h := heap_alloc_new (w.alloc d) l
  rw [World.size_alloc] at h
  exact ⟨((below_new (w.alloc d) l).block _ (by rw [World.size_alloc]; omega)).trans (heap_alloc_new w d), h⟩
/-- The loop's call of the iterator. -/
theorem call_laid {P : Program} {g : Operand} {a : Act} {gf : Nat} {lb : Array Value} (hg : a.eval g = .func (.func gf) #[] lb) (l : Nat) (W : World) :
    (resolve a.eval (rangeCall g l) 0).run P W = .ok { target := .fn (.func gf) lb, args := #[.func (.yield l) #[] #[]] } W := by
  unfold resolve
  simp only [hg]
  simp [go_sem]
theorem call_enters {P : Program} {gf : Nat} {lb : Array Value} (eg : ∀ args w, (callFunc gf args).run P w = .ok (.enter gf args) w) (l : Nat) (W : World) :
    (invoke (.fn (.func gf) lb) #[.func (.yield l) #[] #[]]).run P W = .ok (.enter gf (#[.func (.yield l) #[] #[]] ++ lb)) W := by
  simp [invoke, go_sem, eg]
end Go.Proofs.Ytkodhlaojlgejaa
namespace Go.Proofs.Ytkodhlaojlgejaa
open Go.RowKit
def zeroEn : En := ⟨⟨none, 0, []⟩, 0, false, ⟨none, 0, []⟩⟩
end Go.Proofs.Ytkodhlaojlgejaa
namespace Go.Proofs.Ytkodhlaojlgejaa
open Go.RowKit
/-- A node: its entry and its tower. -/
structure Nd where
  e : En
  t : List Nat
def nx (N : List Nd) (h i : Nat) : Nat := match N[i]? with
  | none => 0
  | some q => q.t.getD h 0
def eo (N : List Nd) (i : Nat) : Er := match N[i]? with
  | none => ([], 0, false, [])
  | some q => q.e.rd
theorem nx_of {N : List Nd} {i : Nat} {q : Nd} (h : N[i]? = some q) (j : Nat) : nx N j i = q.t.getD j 0 := by unfold nx; rw [h]
theorem eo_of {N : List Nd} {i : Nat} {q : Nd} (h : N[i]? = some q) : eo N i = q.e.rd := by unfold eo; rw [h]
/-- One behind the other, at the lowest height. -/
def Chn (N : List Nd) : Nat → List Nat → Prop
  | p, [] => nx N 0 p = 0
  | p, c :: C => nx N 0 p = c ∧ c ≠ 0 ∧ Chn N c C
structure Skip (N : List Nd) (C : List Nat) : Prop where
  pos : 1 ≤ N.length
  asc : ∀ h i, h < 12 → i < N.length → nx N h i = 0 ∨ (nx N h i < N.length ∧ (i = 0 ∨ ordE (eo N i) (eo N (nx N h i)) < 0))
  chain : Chn N 0 C
  all : ∀ j, j ∈ C ↔ 1 ≤ j ∧ j < N.length
  good : ∀ j, j ∈ C → GoodE (eo N j)
def cont (N : List Nd) (C : List Nat) : List Er := C.map (eo N)
theorem chn_sorted {N : List Nd} (ha : ∀ i, i < N.length → nx N 0 i = 0 ∨ (nx N 0 i < N.length ∧ (i = 0 ∨ ordE (eo N i) (eo N (nx N 0 i)) < 0))) : ∀ (C : List Nat) (p : Nat), p < N.length → Chn N p C → List.Pairwise (fun x y => ordE x y < 0) (cont N C) ∧ (p ≠ 0 → ∀ c ∈ C, ordE (eo N p) (eo N c) < 0)
  | [], _, _, _ => ⟨List.Pairwise.nil, fun _ _ h => by cases h⟩
  | c :: C, p, hp, h => by
    obtain ⟨h1, h2, h3⟩ := h
    have hc : c < N.length := by
      rcases ha p hp with h | ⟨h, -⟩
      · omega
      · omega
    obtain ⟨i1, i2⟩ := chn_sorted ha C c hc h3
    have i3 := i2 h2
    refine ⟨List.pairwise_cons.2 ⟨fun y hy => ?_, i1⟩, fun hp0 z hz => ?_⟩
    · obtain ⟨d, hd, rfl⟩ := List.mem_map.1 hy
      exact i3 d hd
    · have hpc : ordE (eo N p) (eo N c) < 0 := by
        rcases ha p hp with h | ⟨-, h | h⟩
        · omega
        · omega
        · rwa [h1] at h
      rcases List.mem_cons.1 hz with e | e
      · rw [e]; exact hpc
      · exact ordE_trans hpc (i3 z e)
theorem Skip.asc0 {N : List Nd} {C : List Nat} (h : Skip N C) : ∀ i, i < N.length → nx N 0 i = 0 ∨ (nx N 0 i < N.length ∧ (i = 0 ∨ ordE (eo N i) (eo N (nx N 0 i)) < 0)) := fun i hi => h.asc 0 i (by omega) hi
theorem Skip.sorted {N : List Nd} {C : List Nat} (h : Skip N C) : OrdL (cont N C) :=
  OrdL.pw.2 ⟨fun e he => by obtain ⟨j, hj, rfl⟩ := List.mem_map.1 he; exact h.good j hj, (chn_sorted h.asc0 C 0 h.pos h.chain).1⟩
theorem chn_split {N : List Nd} : ∀ {C : List Nat} {p a : Nat}, Chn N p C → a ∈ C → ∃ C1 C2, C = C1 ++ a :: C2 ∧ Chn N a C2
  | c :: C, p, a, h, ha => by
    obtain ⟨h1, h2, h3⟩ := h
    by_cases e : a = c
    · subst e; exact ⟨[], C, rfl, h3⟩
    · obtain ⟨C1, C2, e1, e2⟩ := chn_split h3 ((List.mem_cons.1 ha).resolve_left e)
      exact ⟨c :: C1, C2, by rw [e1]; rfl, e2⟩
/-- The place where an entry belongs. -/
structure Plc (N : List Nd) (C : List Nat) (x : Er) (a : Nat) (C1 C2 : List Nat) : Prop where
  cut : C = C1 ++ C2
  low : ∀ c ∈ C1, ordE (eo N c) x < 0
  high : ∀ c ∈ C2, ¬ ordE (eo N c) x < 0
  last : (C1 = [] ∧ a = 0) ∨ C1.getLast? = some a
  next : Chn N a C2
theorem place {N : List Nd} {C : List Nat} {x : Er} {a : Nat} (h : Skip N C) (ha : a < N.length) (h1 : a = 0 ∨ ordE (eo N a) x < 0) (h2 : nx N 0 a = 0 ∨ ¬ ordE (eo N (nx N 0 a)) x < 0) : ∃ C1 C2, Plc N C x a C1 C2 := by
  have hs := chn_sorted h.asc0 C 0 h.pos h.chain
  have hhigh : ∀ C2, Chn N a C2 → ∀ c ∈ C2, ¬ ordE (eo N c) x < 0 := fun C2 hC c hc => by
    cases C2 with
    | nil => cases hc
    | cons d D =>
      obtain ⟨e1, e2, e3⟩ := hC
      have hd : ¬ ordE (eo N d) x < 0 := by
        rcases h2 with h2 | h2
        · omega
        · rwa [e1] at h2
      rcases List.mem_cons.1 hc with e | e
      · rw [e]; exact hd
      · have hdl : d < N.length := by
          rcases h.asc0 a ha with q | ⟨q, -⟩
          · omega
          · omega
        have := (chn_sorted h.asc0 D d hdl e3).2 e2 c e
        intro hlt
        exact hd (ordE_trans this hlt)
  by_cases h0 : a = 0
  · subst h0
    exact ⟨[], C, rfl, fun c hc => (by cases hc), hhigh C h.chain, .inl ⟨rfl, rfl⟩, h.chain⟩
  · have hx := h1.resolve_left h0
    obtain ⟨C1, C2, e, hc⟩ := chn_split h.chain ((h.all a).2 ⟨by omega, ha⟩)
    refine ⟨C1 ++ [a], C2, by rw [e]; simp, fun c hm => ?_, hhigh C2 hc, .inr (by simp), hc⟩
    rcases List.mem_append.1 hm with hm | hm
    · have hp := hs.1
      rw [e, cont, List.map_append, List.pairwise_append] at hp
      exact ordE_trans (hp.2.2 _ (List.mem_map_of_mem hm) (eo N a) (by simp)) hx
    · rw [List.mem_singleton.1 hm]; exact hx
theorem Plc.map {N : List Nd} {C : List Nat} {x : Er} {a : Nat} {C1 C2 : List Nat} (h : Plc N C x a C1 C2) : cont N C = cont N C1 ++ cont N C2 := by rw [h.cut]; simp [cont]
/-- A tower is turned. -/
def setT (N : List Nd) (i h v : Nat) : List Nd := match N[i]? with
  | none => N
  | some q => N.set i ⟨q.e, q.t.set h v⟩
theorem setT_len (N : List Nd) (i h v : Nat) : (setT N i h v).length = N.length := by unfold setT; split <;> simp
theorem setT_eo (N : List Nd) (i h v j : Nat) : eo (setT N i h v) j = eo N j := by
  unfold setT
  split
  · rfl
  · next q hq =>
    unfold eo
    by_cases e : i = j
    · subst e
      rw [List.getElem?_set_self (List.getElem?_eq_some_iff.1 hq).1, hq]
    · rw [List.getElem?_set_ne e]
def Tall (N : List Nd) : Prop := ∀ q ∈ N, q.t.length = 12
theorem setT_tall {N : List Nd} (hN : Tall N) (i h v : Nat) : Tall (setT N i h v) := fun q hq => by
  unfold setT at hq
  split at hq
  · exact hN q hq
  · next p hp =>
    rcases List.mem_or_eq_of_mem_set hq with e | e
    · exact hN q e
    · rw [e]; simp only [List.length_set]; exact hN p (List.mem_of_getElem? hp)
theorem setT_nx {N : List Nd} (hN : Tall N) {i h v : Nat} (hi : i < N.length) (hh : h < 12) (g j : Nat) : nx (setT N i h v) g j = if j = i ∧ g = h then v else nx N g j := by
  have hq := List.getElem?_eq_getElem hi
  have ht := hN _ (List.getElem_mem hi)
  generalize N[i] = q at hq ht
  unfold setT
  rw [hq]
  unfold nx
  by_cases e : i = j
  · subst e
    simp only [List.getElem?_set_self hi, hq, true_and]
    by_cases e2 : g = h
    · subst e2
      rw [if_pos rfl, List.getD_eq_getElem?_getD, List.getElem?_set_self (by omega)]
      rfl
    · rw [if_neg e2, List.getD_eq_getElem?_getD, List.getElem?_set_ne (fun q => e2 q.symm), ← List.getD_eq_getElem?_getD]
  · simp only [List.getElem?_set_ne e]
    rw [if_neg (fun q => e q.1.symm)]
/-- Some towers are turned, each at its height, to one that comes. -/
def raise (N : List Nd) (la : List Nat) (v : Nat) : Nat → List Nd
  | 0 => N
  | j + 1 => setT (raise N la v j) (la.getD j 0) j v
theorem raise_len (N : List Nd) (la : List Nat) (v j : Nat) : (raise N la v j).length = N.length := by
  induction j with
  | zero => rfl
  | succ j ih => rw [raise, setT_len, ih]
theorem raise_eo (N : List Nd) (la : List Nat) (v j i : Nat) : eo (raise N la v j) i = eo N i := by
  induction j with
  | zero => rfl
  | succ j ih => rw [raise, setT_eo, ih]
theorem raise_tall {N : List Nd} (hN : Tall N) (la : List Nat) (v j : Nat) : Tall (raise N la v j) := by
  induction j with
  | zero => exact hN
  | succ j ih => rw [raise]; exact setT_tall ih _ _ _
theorem raise_nx {N : List Nd} (hN : Tall N) {la : List Nat} {v j : Nat} (hl : ∀ h, h < 12 → la.getD h 0 < N.length) (hj : j ≤ 12) (g i : Nat) : nx (raise N la v j) g i = if g < j ∧ i = la.getD g 0 then v else nx N g i := by
  induction j with
  | zero => rw [if_neg (by omega)]; rfl
  | succ j ih =>
    have ih := ih (by omega)
    rw [raise, setT_nx (raise_tall hN _ _ _) (by rw [raise_len]; exact hl j (by omega)) (by omega), ih]
    by_cases e : i = la.getD j 0 ∧ g = j
    · obtain ⟨e1, e2⟩ := e
      subst e2
      rw [if_pos ⟨e1, rfl⟩, if_pos ⟨by omega, e1⟩]
    · rw [if_neg e]
      by_cases e3 : g < j ∧ i = la.getD g 0
      · rw [if_pos e3, if_pos ⟨by omega, e3.2⟩]
      · rw [if_neg e3, if_neg (fun q => by
          by_cases e4 : g = j
          · subst e4; exact e ⟨q.2, rfl⟩
          · exact e3 ⟨by omega, q.2⟩)]
/-- The tower of what is put. -/
def towerOf (N : List Nd) (la : List Nat) (j : Nat) : List Nat := (List.range 12).map (fun h => if h < j then nx N h (la.getD h 0) else 0)
theorem towerOf_get (N : List Nd) (la : List Nat) (j h : Nat) (hh : h < 12) : (towerOf N la j).getD h 0 = if h < j then nx N h (la.getD h 0) else 0 := by
  unfold towerOf
  rw [List.getD_eq_getElem?_getD, List.getElem?_map, List.getElem?_range hh]
  rfl
theorem towerOf_len (N : List Nd) (la : List Nat) (j : Nat) : (towerOf N la j).length = 12 := by simp [towerOf]
def putN (N : List Nd) (la : List Nat) (j : Nat) (x : En) : List Nd := raise N la N.length j ++ [⟨x, towerOf N la j⟩]
theorem chn_keep {N N' : List Nd} : ∀ {C : List Nat} {p : Nat}, Chn N p C → (∀ i, i = p ∨ i ∈ C → nx N' 0 i = nx N 0 i) → Chn N' p C
  | [], p, h, hk => (hk p (.inl rfl)).trans h
  | c :: C, p, h, hk => ⟨(hk p (.inl rfl)).trans h.1, h.2.1, chn_keep h.2.2 (fun i hi => hk i (.inr (hi.elim (fun e => by rw [e]; exact List.mem_cons_self ..) (List.mem_cons_of_mem _))))⟩
theorem chn_join {N : List Nd} : ∀ {C1 C2 : List Nat} {p a : Nat}, Chn N p (C1 ++ C2) → ((C1 = [] ∧ a = p) ∨ C1.getLast? = some a) → ∀ {N' : List Nd} {D : List Nat}, (∀ i, (i = p ∨ i ∈ C1) → i ≠ a → nx N' 0 i = nx N 0 i) → Chn N' a D → (a ∉ C1.dropLast) → (C1 ≠ [] → a ≠ p) → Chn N' p (C1 ++ D)
  | [], C2, p, a, h, hl, N', D, hk, hD, hn, hp => by
    rcases hl with ⟨-, rfl⟩ | hl
    · exact hD
    · simp at hl
  | c :: C1, C2, p, a, h, hl, N', D, hk, hD, hn, hp => by
    have hl := hl.resolve_left (fun q => by cases q.1)
    obtain ⟨h1, h2, h3⟩ := h
    have hpa : p ≠ a := fun e => hp (by simp) e.symm
    refine ⟨(hk p (.inl rfl) hpa).trans h1, h2, ?_⟩
    cases C1 with
    | nil =>
      simp at hl
      subst hl
      exact hD
    | cons d C1 =>
      rw [List.getLast?_cons_cons] at hl
      have hn' : a ≠ c ∧ a ∉ (d :: C1).dropLast := by
        simp only [List.dropLast_cons_cons, List.mem_cons, not_or] at hn
        exact ⟨hn.1, hn.2⟩
      exact chn_join (C1 := d :: C1) h3 (.inr hl) (fun i hi ha => hk i (.inr (hi.elim (fun e => by rw [e]; exact List.mem_cons_self ..) (List.mem_cons_of_mem _))) ha) hD hn'.2 (fun _ => hn'.1)
end Go.Proofs.Ytkodhlaojlgejaa
namespace Go.Proofs.Ytkodhlaojlgejaa
open Go.RowKit
/-- What is known of the last ones ahead of an entry. -/
def LastOk (N : List Nd) (x : Er) (la : List Nat) : Prop := ∀ h, h < 12 → la.getD h 0 < N.length ∧ (la.getD h 0 = 0 ∨ ordE (eo N (la.getD h 0)) x < 0) ∧ (nx N h (la.getD h 0) = 0 ∨ ¬ ordE (eo N (nx N h (la.getD h 0))) x < 0)
theorem no_equal {N : List Nd} {C C1 C2 : List Nat} {x : Er} {a : Nat} (h : Skip N C) (hp : Plc N C x a C1 C2) (hne : nx N 0 a = 0 ∨ ordE (eo N (nx N 0 a)) x ≠ 0) : ∀ c ∈ C, ordE (eo N c) x ≠ 0 := fun c hc => by
  rw [hp.cut] at hc
  rcases List.mem_append.1 hc with hc | hc
  · have := hp.low c hc; omega
  · have hs := hp.next
    have hhi := hp.high
    cases C2 with
    | nil => cases hc
    | cons d D =>
      obtain ⟨e1, e2, e3⟩ := hs
      have hd : ordE (eo N d) x ≠ 0 := by
        rcases hne with h | h
        · omega
        · rwa [e1] at h
      have hd2 := hhi d (List.mem_cons_self ..)
      rcases List.mem_cons.1 hc with e | e
      · rw [e]; exact hd
      · have hdl : d < N.length := ((h.all d).1 (by rw [hp.cut]; simp)).2
        have h1 := (chn_sorted h.asc0 D d hdl e3).2 e2 c e
        have h2 := ordE_flip (eo N d) x
        have h3 : ordE x (eo N d) < 0 := by omega
        have h4 := ordE_trans h3 h1
        have h5 := ordE_flip (eo N c) x
        omega
theorem putN_len (N : List Nd) (la : List Nat) (j : Nat) (x : En) : (putN N la j x).length = N.length + 1 := by unfold putN; rw [List.length_append, raise_len]; rfl
theorem putN_eo {N : List Nd} {la : List Nat} {j : Nat} {x : En} {i : Nat} (hi : i < N.length) : eo (putN N la j x) i = eo N i := by
  rw [← raise_eo N la N.length j i]
  unfold putN eo
  rw [List.getElem?_append_left (by rw [raise_len]; exact hi)]
theorem putN_eo_new (N : List Nd) (la : List Nat) (j : Nat) (x : En) : eo (putN N la j x) N.length = x.rd := by
  unfold putN eo
  rw [List.getElem?_append_right (by rw [raise_len]; exact Nat.le_refl _), raise_len]
  simp
theorem putN_nx {N : List Nd} {la : List Nat} {j : Nat} {x : En} {i h : Nat} (hN : Tall N) (hl : ∀ h, h < 12 → la.getD h 0 < N.length) (hj : j ≤ 12) (hi : i < N.length) : nx (putN N la j x) h i = if h < j ∧ i = la.getD h 0 then N.length else nx N h i := by
  rw [← raise_nx hN hl hj]
  unfold putN nx
  rw [List.getElem?_append_left (by rw [raise_len]; exact hi)]
theorem putN_nx_new (N : List Nd) (la : List Nat) (j : Nat) (x : En) (h : Nat) (hh : h < 12) : nx (putN N la j x) h N.length = if h < j then nx N h (la.getD h 0) else 0 := by
  rw [← towerOf_get N la j h hh]
  unfold putN nx
  rw [List.getElem?_append_right (by rw [raise_len]; exact Nat.le_refl _), raise_len]
  simp
theorem putN_tall {N : List Nd} (hN : Tall N) (la : List Nat) (j : Nat) (x : En) : Tall (putN N la j x) := fun q hq => by
  rcases List.mem_append.1 hq with e | e
  · exact raise_tall hN _ _ _ q e
  · rw [List.mem_singleton.1 e]; exact towerOf_len N la j
theorem put_skip {N : List Nd} {C la : List Nat} {x : En} {j : Nat} (hN : Tall N) (h : Skip N C) (hl : LastOk N x.rd la) (hne : nx N 0 (la.getD 0 0) = 0 ∨ ordE (eo N (nx N 0 (la.getD 0 0))) x.rd ≠ 0) (h1 : 1 ≤ j) (hj : j ≤ 12) (hg : GoodE x.rd) : ∃ C', Skip (putN N la j x) C' ∧ (cont (putN N la j x) C').Perm (x.rd :: cont N C) := by
  obtain ⟨l1, l2, l3⟩ := hl 0 (by omega)
  obtain ⟨C1, C2, hp⟩ := place h l1 l2 l3
  have hneq := no_equal h hp hne
  have hll : ∀ h, h < 12 → la.getD h 0 < N.length := fun h hh => (hl h hh).1
  obtain ⟨a, ha⟩ : ∃ a, la.getD 0 0 = a := ⟨_, rfl⟩
  rw [ha] at hp l1 l2 l3
  have hin : ∀ c, c ∈ C1 ∨ c ∈ C2 → 1 ≤ c ∧ c < N.length := fun c hc => (h.all c).1 (by rw [hp.cut]; exact List.mem_append.2 hc)
  have ha2 : a ∉ C2 := fun hm => by
    have h2 := hp.high a hm
    rcases l2 with e | e
    · have := (hin a (.inr hm)).1; omega
    · exact h2 e
  have hstep : ∀ i, i < N.length → i ≠ a → nx (putN N la j x) 0 i = nx N 0 i := fun i hi hia => by
    rw [putN_nx hN hll hj hi, if_neg (fun q => hia (q.2.trans ha))]
  have hnew : nx (putN N la j x) 0 N.length = nx N 0 a := by rw [putN_nx_new _ _ _ _ _ (by omega), if_pos (by omega), ha]
  have hchain : Chn (putN N la j x) 0 (C1 ++ N.length :: C2) := by
    refine chn_join (C2 := C2) (by rw [← hp.cut]; exact h.chain) hp.last (fun i hi hia => hstep i ?_ hia) ⟨?_, by have := h.pos; omega, ?_⟩ ?_ ?_
    · rcases hi with e | e
      · rw [e]; exact h.pos
      · exact (hin i (.inl e)).2
    · rw [putN_nx hN hll hj l1, if_pos ⟨by omega, ha.symm⟩]
    · have hnx := hp.next
      cases C2 with
      | nil => exact hnew.trans hnx
      | cons d D =>
        obtain ⟨e1, e2, e3⟩ := hnx
        exact ⟨hnew.trans e1, e2, chn_keep e3 (fun i hi => hstep i (hin i (.inr (by rcases hi with e | e <;> simp [e]))).2 (fun e => ha2 (by subst e; rcases hi with e | e <;> simp [e])))⟩
    · intro hm
      rcases hp.last with ⟨e, -⟩ | e
      · subst e; cases hm
      · obtain ⟨D, rfl⟩ := List.getLast?_eq_some_iff.1 e
        rw [List.dropLast_concat] at hm
        have hs := (chn_sorted h.asc0 C 0 h.pos h.chain).1
        rw [hp.cut, cont, List.map_append, List.map_append, List.append_assoc, List.pairwise_append] at hs
        have := hs.2.2 _ (List.mem_map_of_mem hm) (eo N a) (by simp)
        rw [ordE_self] at this
        omega
    · intro hc
      rcases hp.last with ⟨e, -⟩ | e
      · exact absurd e hc
      · have := (hin a (.inl (List.mem_of_getLast? e))).1
        omega
  refine ⟨C1 ++ N.length :: C2, ⟨by rw [putN_len]; omega, fun g i hg12 hi => ?_, hchain, fun k => ?_, fun k hk => ?_⟩, ?_⟩
  · rw [putN_len] at hi ⊢
    by_cases hin' : i = N.length
    · subst hin'
      rw [putN_nx_new _ _ _ _ _ hg12]
      by_cases hgj : g < j
      · rw [if_pos hgj]
        obtain ⟨m1, m2, m3⟩ := hl g hg12
        rcases h.asc g _ hg12 m1 with q | ⟨q, -⟩
        · exact .inl q
        · by_cases q0 : nx N g (la.getD g 0) = 0
          · exact .inl q0
          · refine .inr ⟨by omega, .inr ?_⟩
            rw [putN_eo_new, putN_eo q]
            have e1 := m3.resolve_left q0
            have e2 := hneq _ ((h.all _).2 ⟨by omega, q⟩)
            have e3 := ordE_flip (eo N (nx N g (la.getD g 0))) x.rd
            omega
      · rw [if_neg hgj]; exact .inl rfl
    · have hi' : i < N.length := by omega
      rw [putN_nx hN hll hj hi']
      by_cases hc : g < j ∧ i = la.getD g 0
      · rw [if_pos hc]
        refine .inr ⟨by omega, ?_⟩
        rw [putN_eo_new, putN_eo hi', hc.2]
        exact (hl g hg12).2.1
      · rw [if_neg hc]
        rcases h.asc g i hg12 hi' with q | ⟨q1, q2⟩
        · exact .inl q
        · exact .inr ⟨by omega, by rw [putN_eo hi', putN_eo q1]; exact q2⟩
  · rw [putN_len]
    constructor
    · intro hk
      rcases List.mem_append.1 hk with e | e
      · have := hin k (.inl e); omega
      · rcases List.mem_cons.1 e with e | e
        · have := h.pos; omega
        · have := hin k (.inr e); omega
    · rintro ⟨k1, k2⟩
      by_cases e : k = N.length
      · subst e; simp
      · have := (h.all k).2 ⟨k1, by omega⟩
        rw [hp.cut] at this
        rcases List.mem_append.1 this with e | e
        · exact List.mem_append_left _ e
        · exact List.mem_append_right _ (List.mem_cons_of_mem _ e)
  · rcases List.mem_append.1 hk with e | e
    · rw [putN_eo (hin k (.inl e)).2]; exact h.good k (by rw [hp.cut]; exact List.mem_append_left _ e)
    · rcases List.mem_cons.1 e with e | e
      · rw [e, putN_eo_new]; exact hg
      · rw [putN_eo (hin k (.inr e)).2]; exact h.good k (by rw [hp.cut]; exact List.mem_append_right _ e)
  · have e1 : cont (putN N la j x) C1 = cont N C1 := List.map_congr_left (fun c hc => putN_eo (hin c (.inl hc)).2)
    have e2 : cont (putN N la j x) C2 = cont N C2 := List.map_congr_left (fun c hc => putN_eo (hin c (.inr hc)).2)
    have e3 : cont (putN N la j x) (C1 ++ N.length :: C2) = cont N C1 ++ x.rd :: cont N C2 := by
      rw [← e1, ← e2]
      unfold cont
      rw [List.map_append, List.map_cons, putN_eo_new]
    rw [e3, hp.map]
    exact List.perm_middle
/-- Those that are behind, as a measure of a way on. -/
def behindC (N : List Nd) (C : List Nat) (p : Nat) : Nat := (C.filter (fun c => decide (p = 0) || decide (ordE (eo N p) (eo N c) < 0))).length
theorem behind_less {N : List Nd} {C : List Nat} (h : Skip N C) {p g : Nat} (hg : g < 12) (hp : p < N.length) (h0 : nx N g p ≠ 0) : behindC N C (nx N g p) < behindC N C p := by
  rcases h.asc g p hg hp with q | ⟨q1, q2⟩
  · exact absurd q h0
  · have hm : nx N g p ∈ C := (h.all _).2 ⟨by omega, q1⟩
    unfold behindC
    obtain ⟨C1, C2, e⟩ := List.append_of_mem hm
    have hle : ∀ D : List Nat, (D.filter (fun c => decide (nx N g p = 0) || decide (ordE (eo N (nx N g p)) (eo N c) < 0))).length ≤ (D.filter (fun c => decide (p = 0) || decide (ordE (eo N p) (eo N c) < 0))).length := fun D => by
      induction D with
      | nil => simp
      | cons c D ih =>
        rw [List.filter_cons, List.filter_cons]
        by_cases hc : (decide (nx N g p = 0) || decide (ordE (eo N (nx N g p)) (eo N c) < 0)) = true
        · have hc2 : (decide (p = 0) || decide (ordE (eo N p) (eo N c) < 0)) = true := by
            rw [Bool.or_eq_true, decide_eq_true_iff, decide_eq_true_iff] at hc ⊢
            have hlt := hc.resolve_left h0
            exact q2.imp id (fun q => ordE_trans q hlt)
          rw [if_pos hc, if_pos hc2, List.length_cons, List.length_cons]
          omega
        · rw [if_neg hc]
          split
          · rw [List.length_cons]; omega
          · exact ih
    rw [e, List.filter_append, List.filter_append, List.length_append, List.length_append, List.filter_cons, List.filter_cons]
    have k1 := hle C1
    have k2 := hle C2
    have k3 : ¬ (decide (nx N g p = 0) || decide (ordE (eo N (nx N g p)) (eo N (nx N g p)) < 0)) = true := by
      rw [Bool.or_eq_true, decide_eq_true_iff, decide_eq_true_iff, ordE_self]
      omega
    have k4 : (decide (p = 0) || decide (ordE (eo N p) (eo N (nx N g p)) < 0)) = true := by
      rw [Bool.or_eq_true, decide_eq_true_iff, decide_eq_true_iff]
      exact q2
    rw [if_neg k3, if_pos k4, List.length_cons]
    omega
end Go.Proofs.Ytkodhlaojlgejaa
namespace Go.Proofs.Ytkodhlaojlgejaa
open Go.RowKit
def zNode : Value := .agg #[.slice none 0 0, .int .i64 0, .bool false, .slice none 0 0, .int .i64 0, .int .i64 0, .int .i64 0, .int .i64 0, .int .i64 0, .int .i64 0, .int .i64 0, .int .i64 0, .int .i64 0, .int .i64 0, .int .i64 0, .int .i64 0]
theorem info71 : (Try.prog.info? 71).map (fun i => (i.zero, i.size, i.bytes)) = some (some zNode, 16, 160) := by kernel_rfl
/-- A tower's cells. -/
def tvals (t : List Nat) : List Value := (List.range 12).map (fun h => .int .i64 ((t.getD h 0 : Nat) : Int))
theorem tvals_len (t : List Nat) : (tvals t).length = 12 := by simp [tvals]
theorem tvals_get (t : List Nat) {h : Nat} (hh : h < 12) : (tvals t)[h]? = some (.int .i64 ((t.getD h 0 : Nat) : Int)) := by
  unfold tvals
  rw [List.getElem?_map, List.getElem?_range hh]
  rfl
theorem tvals_set {t : List Nat} (ht : t.length = 12) {h : Nat} (hh : h < 12) (v : Nat) : (tvals t).set h (.int .i64 (v : Int)) = tvals (t.set h v) := by
  refine List.ext_getElem? (fun j => ?_)
  by_cases hj : j < 12
  · rw [tvals_get _ hj]
    by_cases e : h = j
    · subst e
      rw [List.getElem?_set_self (by rw [tvals_len]; exact hj), List.getD_eq_getElem?_getD, List.getElem?_set_self (by omega)]
      rfl
    · rw [List.getElem?_set_ne e, tvals_get _ hj, List.getD_eq_getElem?_getD, List.getD_eq_getElem?_getD, List.getElem?_set_ne e]
  · rw [List.getElem?_eq_none (by rw [List.length_set, tvals_len]; omega), List.getElem?_eq_none (by rw [tvals_len]; omega)]
def Nd.cells (q : Nd) : List Value := q.e.cells ++ tvals q.t
theorem Nd.cells_len (q : Nd) : q.cells.length = 16 := by unfold Nd.cells; rw [List.length_append, tvals_len]; rfl
def nvals (N : List Nd) : List Value := N.flatMap Nd.cells
theorem nvals_append (N M : List Nd) : nvals (N ++ M) = nvals N ++ nvals M := by simp [nvals]
theorem nvals_len : ∀ N : List Nd, (nvals N).length = N.length * 16
  | [] => rfl
  | q :: N => by
    have := nvals_len N
    unfold nvals at this ⊢
    rw [List.flatMap_cons, List.length_append, this, Nd.cells_len, List.length_cons]
    omega
theorem tvals_one {t : List Nat} : ∀ u ∈ tvals t, u.oneCell' = true := fun u hu => by
  obtain ⟨x, -, rfl⟩ := List.mem_map.1 hu
  rfl
theorem nvals_one {N : List Nd} : ∀ u ∈ nvals N, u.oneCell' = true := fun u hu => by
  obtain ⟨q, -, h⟩ := List.mem_flatMap.1 hu
  rcases List.mem_append.1 h with h | h
  · simp [En.cells] at h
    rcases h with rfl | rfl | rfl | rfl <;> rfl
  · exact tvals_one u h
theorem nvals_get : ∀ (N : List Nd) (i : Nat) (q : Nd), N[i]? = some q → ∀ j, j < 16 → (nvals N)[i * 16 + j]? = q.cells[j]?
  | [], _, _, h, _, _ => by simp at h
  | p :: N, 0, q, h, j, hj => by
    simp at h
    subst h
    unfold nvals
    rw [List.flatMap_cons, List.getElem?_append_left (by rw [Nd.cells_len]; omega), Nat.zero_mul, Nat.zero_add]
  | p :: N, i + 1, q, h, j, hj => by
    have ih := nvals_get N i q (by simpa using h) j hj
    unfold nvals at ih ⊢
    rw [List.flatMap_cons, List.getElem?_append_right (by rw [Nd.cells_len]; omega), Nd.cells_len, ← ih]
    congr 1
    omega
theorem nvals_set : ∀ (N : List Nd) (i : Nat) (p q : Nd) (j : Nat) (v : Value), N[i]? = some p → j < 16 → p.cells.set j v = q.cells → (nvals N).set (i * 16 + j) v = nvals (N.set i q)
  | [], _, _, _, _, _, h, _, _ => by simp at h
  | x :: N, 0, p, q, j, v, h, hj, he => by
    simp at h
    subst h
    unfold nvals
    rw [List.set_cons_zero, List.flatMap_cons, List.flatMap_cons, Nat.zero_mul, Nat.zero_add, List.set_append_left _ _ (by rw [Nd.cells_len]; omega), he]
  | x :: N, i + 1, p, q, j, v, h, hj, he => by
    have ih := nvals_set N i p q j v (by simpa using h) hj he
    unfold nvals at ih ⊢
    rw [List.set_cons_succ, List.flatMap_cons, List.flatMap_cons, List.set_append_right _ _ (by rw [Nd.cells_len]; omega), Nd.cells_len, ← ih]
    congr 2
    omega
/-- The cells of one node, as a walk spells them. -/
def AtN (w : World) (E : Addr) (q : Nd) : Prop := AtE w E q.e ∧ ∀ h, h < 12 → w.cell? ⟨E.block, E.off + 4 + h, none⟩ = some (.int .i64 ((q.t.getD h 0 : Nat) : Int))
theorem lies_node {w : World} {A : Option Addr} {N : List Nd} {i : Nat} {q : Nd} (h : Lies w A (nvals N)) (hq : N[i]? = some q) : ∃ ad, A = some ad ∧ AtN w (ad.add (i * 16)) q := by
  have hg := nvals_get N i q hq
  have g0 : (nvals N)[i * 16]? = some q.e.k.val := by have := hg 0 (by omega); simpa [Nd.cells, En.cells] using this
  have g1 : (nvals N)[i * 16 + 1]? = some (.int .i64 q.e.s) := by have := hg 1 (by omega); simpa [Nd.cells, En.cells] using this
  have g2 : (nvals N)[i * 16 + 2]? = some (.bool q.e.d) := by have := hg 2 (by omega); simpa [Nd.cells, En.cells] using this
  have g3 : (nvals N)[i * 16 + 3]? = some q.e.v.val := by have := hg 3 (by omega); simpa [Nd.cells, En.cells] using this
  have g4 : ∀ h, h < 12 → (nvals N)[i * 16 + (4 + h)]? = some (.int .i64 ((q.t.getD h 0 : Nat) : Int)) := fun h hh => by
    rw [hg (4 + h) (by omega)]
    unfold Nd.cells
    rw [List.getElem?_append_right (by simp [En.cells])]
    have : 4 + h - q.e.cells.length = h := by simp [En.cells]
    rw [this, tvals_get _ hh]
  rcases h with h | ⟨ad, rfl, h2⟩
  · rw [h] at g0
    simp at g0
  · refine ⟨ad, rfl, ⟨?_, ?_, ?_, ?_⟩, fun h hh => ?_⟩
    · simpa [Sl.val] using h2 _ _ g0
    · have := h2 _ _ g1
      rw [← add_add] at this
      simpa [Addr.add, Sl.val] using this
    · have := h2 _ _ g2
      rw [← add_add] at this
      simpa [Addr.add, Sl.val] using this
    · have := h2 _ _ g3
      rw [← add_add] at this
      simpa [Addr.add, Sl.val] using this
    · have := h2 _ _ (g4 h hh)
      rw [← add_add] at this
      have e : (ad.add (i * 16)).add (4 + h) = ⟨(ad.add (i * 16)).block, (ad.add (i * 16)).off + (4 + h), none⟩ := by
        unfold Addr.add
        rw [if_neg (by omega)]
      rw [e] at this
      rwa [Nat.add_assoc]
theorem lies_node_at {w : World} {ad : Addr} {N : List Nd} {i : Nat} {q : Nd} (h : Lies w (some ad) (nvals N)) (hq : N[i]? = some q) : AtN w (ad.add (i * 16)) q := by
  obtain ⟨ad', e, h'⟩ := lies_node h hq
  injection e with e
  subst e
  exact h'
/-- A row of nodes of the table's own. -/
def Nrow (w : World) (B : Nat) (A : Option Addr) (c : Nat) (N : List Nd) : Prop := w.ownsRow B 71 16 (.slice A N.length c) N.length (nvals N)
theorem Nrow.lies {w : World} {B : Nat} {A : Option Addr} {c : Nat} {N : List Nd} (h : Nrow w B A c N) : Lies w A (nvals N) := by
  rcases h.2 with ⟨_, h⟩ | ⟨g, cap, cur, e, _⟩
  · exact .inl (by rw [List.eq_nil_of_length_eq_zero h]; rfl)
  · injection e with e1 e2 e3
    subst e1
    exact .inr ⟨_, rfl, fun j u hu => World.ownsRow.cells h (g := g) rfl j u hu⟩
theorem Nrow.place {w : World} {B : Nat} {A : Option Addr} {c : Nat} {N : List Nd} (h : Nrow w B A c N) (h0 : 1 ≤ N.length) : ∃ g, A = some ⟨g, 0, none⟩ ∧ B ≤ g ∧ g < w.heap.size ∧ ∃ cs, w.heap[g]? = some (.cells cs 71 (0, 0)) := by
  rcases h.2 with ⟨_, h⟩ | ⟨g, cap, cur, e, h1, h2, _⟩
  · omega
  · injection e with e1 e2 e3
    exact ⟨g, e1, h1, (Array.getElem?_eq_some_iff.1 h2).1, _, h2⟩
theorem Nrow.turn {w : World} {B : Nat} {A : Option Addr} {c g i h : Nat} {N : List Nd} (hr : Nrow w B A c N) (hA : A = some ⟨g, 0, none⟩) (hN : Tall N) (hi : i < N.length) (hh : h < 12) : (∃ u, w.cell? ⟨g, i * 16 + (4 + h), none⟩ = some u) ∧ w.frozen? ⟨g, i * 16 + (4 + h), none⟩ = false ∧ ∀ v : Nat, Nrow (w.setCell ⟨g, i * 16 + (4 + h), none⟩ (.int .i64 (v : Int))) B A c (setT N i h v) := by
  subst hA
  have hq := List.getElem?_eq_getElem hi
  have ht := hN _ (List.getElem_mem hi)
  generalize N[i] = q at hq ht
  have hr' := hr
  unfold Nrow at hr'
  refine ⟨?_, hr'.frozenAt _, fun v => ?_⟩
  · rw [hr'.cellAt _ (by omega)]
    rw [nvals_get N i q hq (4 + h) (by omega)]
    exact ⟨_, List.getElem?_eq_getElem (by rw [Nd.cells_len]; omega)⟩
  · have := (hr'.stored (i * 16 + (4 + h)) (.int .i64 (v : Int))).1
    unfold Nrow
    rw [setT_len]
    have e : setT N i h v = N.set i ⟨q.e, q.t.set h v⟩ := by unfold setT; rw [hq]
    rw [nvals_set N i q ⟨q.e, q.t.set h v⟩ (4 + h) _ hq (by omega) (by
      unfold Nd.cells
      rw [List.set_append_right _ _ (by simp [En.cells])]
      have : 4 + h - q.e.cells.length = h := by simp [En.cells]
      rw [this, tvals_set ht hh]), ← e] at this
    exact this
theorem run_append_nrow (w : World) (ty : TypeId) (B : Nat) (A : Option Addr) (c : Nat) (T U : List Nd) (C : Option Addr) (cm : Nat) (h : Nrow w B A c T) (hm : Lies w C (nvals U)) (hB : B ≤ w.heap.size) (hr : (T.length + U.length) * 160 ≤ 140737488355328) :
    ∃ A' c' w', (Builtin.append_ #[72, 72] ty #[.slice A T.length c, .slice C U.length cm]).run Try.prog w = .ok (.slice A' (T.length + U.length) c') w' ∧ Nrow w' B A' c' (T ++ U) ∧ Below B w w' ∧ w.grownBy w' (Value.slice A T.length c).ownBlock := by
  obtain ⟨i, hi, hz0, hz1, hz2⟩ := info_parts info71
  obtain ⟨A', c', w', r, h2, h3, h4⟩ := run_append_grown (P := Try.prog) w 72 ty 71 i zNode 16 160 Try.underlying72 hi hz0 hz1 hz2 rfl (by decide) B A T.length c (nvals T) h C U.length cm (nvals U) (by rw [nvals_len]) hm nvals_one (by unfold maxLen; omega) hr hB
  rw [← nvals_append] at h2
  exact ⟨A', c', w', r, by unfold Nrow; rw [List.length_append]; exact h2, h3, h4⟩
/-- Numbers, as they lie. -/
def ivals (L : List Int) : List Value := L.map (fun x => .int .i64 x)
theorem ivals_len (L : List Int) : (ivals L).length = L.length := by simp [ivals]
theorem ivals_one {L : List Int} : ∀ u ∈ ivals L, u.oneCell' = true := fun u hu => by
  obtain ⟨x, -, rfl⟩ := List.mem_map.1 hu
  rfl
def Irow (w : World) (B : Nat) (A : Option Addr) (c : Nat) (L : List Int) : Prop := w.ownsRow B 3 1 (.slice A L.length c) L.length (ivals L)
theorem Irow.nil (w : World) (B : Nat) : Irow w B none 0 [] := World.ownsRow_nil w B _ _
theorem Irow.lies {w : World} {B : Nat} {A : Option Addr} {c : Nat} {L : List Int} (h : Irow w B A c L) : Lies w A (ivals L) := by
  rcases h.2 with ⟨_, h⟩ | ⟨g, cap, cur, e, _⟩
  · exact .inl (by rw [List.eq_nil_of_length_eq_zero h]; rfl)
  · injection e with e1 e2 e3
    subst e1
    exact .inr ⟨_, rfl, fun j u hu => World.ownsRow.cells h (g := g) rfl j u hu⟩
theorem lies_int {w : World} {A : Option Addr} {L : List Int} {j : Nat} {x : Int} (h : Lies w A (ivals L)) (hq : L[j]? = some x) : ∃ ad, A = some ad ∧ w.cell? (ad.add j) = some (.int .i64 x) := by
  have h0 : (ivals L)[j]? = some (.int .i64 x) := by simp [ivals, hq]
  rcases h with h | ⟨ad, rfl, h2⟩
  · rw [h] at h0; simp at h0
  · exact ⟨ad, rfl, h2 _ _ h0⟩
end Go.Proofs.Ytkodhlaojlgejaa
namespace Go.Proofs.Ytkodhlaojlgejaa
open Go.RowKit
/-- A table: where it lies, its heights, its nodes, and the way through them. -/
structure MT where
  b : Nat
  hA : Option Addr
  hc : Nat
  hs : List Int
  nA : Option Addr
  nc : Nat
  ns : List Nd
  cs : List Nat
/-- The blocks that are the table's. -/
def MT.own (t : MT) (g : Nat) : Prop := g = t.b ∨ SlB t.hA g ∨ SlB t.nA g ∨ ∃ q ∈ t.ns, SlB q.e.k.a g ∨ SlB q.e.v.a g
/-- What the table holds. -/
def MT.has (t : MT) : List Er := cont t.ns t.cs
structure MTab (w : World) (t : MT) : Prop where
  obj : w.heap[t.b]? = some (.cells #[.slice t.hA t.hs.length t.hc, .slice t.nA t.ns.length t.nc] 74 (0, 0))
  hrow : Irow w 0 t.hA t.hc t.hs
  nrow : Nrow w 0 t.nA t.nc t.ns
  made : ∀ q ∈ t.ns, Row w 0 q.e.k.a q.e.k.c q.e.k.l ∧ Row w 0 q.e.v.a q.e.v.c q.e.v.l ∧ ErB q.e.rd
  tall : Tall t.ns
  skip : Skip t.ns t.cs
theorem own_same {w w' : World} {B : Nat} {e : TypeId} {size : Nat} {A : Option Addr} {n c m : Nat} {xs : List Value} (h : w.ownsRow B e size (.slice A n c) m xs) (hs : ∀ g, SlB A g → w'.heap[g]? = w.heap[g]?) : w'.ownsRow B e size (.slice A n c) m xs := by
  refine ⟨h.1, ?_⟩
  rcases h.2 with hn | ⟨g, cap, cur, e1, h1, h2, h3⟩
  · exact .inl hn
  · injection e1 with e1 e2 e3
    subst e1 e2 e3
    exact .inr ⟨g, c, cur, rfl, h1, (hs g ⟨_, rfl, rfl⟩).trans h2, h3⟩
theorem MTab.same {w w' : World} {t : MT} (h : MTab w t) (hs : ∀ g, t.own g → w'.heap[g]? = w.heap[g]?) : MTab w' t :=
  ⟨(hs _ (.inl rfl)).trans h.obj, own_same h.hrow (fun g hg => hs g (.inr (.inl hg))), own_same h.nrow (fun g hg => hs g (.inr (.inr (.inl hg)))), fun q hq => ⟨own_same (h.made q hq).1 (fun g hg => hs g (.inr (.inr (.inr ⟨q, hq, .inl hg⟩)))), own_same (h.made q hq).2.1 (fun g hg => hs g (.inr (.inr (.inr ⟨q, hq, .inr hg⟩)))), (h.made q hq).2.2⟩, h.tall, h.skip⟩
theorem MTab.in_ {w : World} {t : MT} (h : MTab w t) : ∀ g, t.own g → g < w.heap.size := fun g hg => by
  rcases hg with rfl | ⟨ad, e, rfl⟩ | ⟨ad, e, rfl⟩ | ⟨q, hq, ⟨ad, e, rfl⟩ | ⟨ad, e, rfl⟩⟩
  · exact (Array.getElem?_eq_some_iff.1 h.obj).1
  · exact (own_in h.hrow ad e).2
  · exact (own_in h.nrow ad e).2
  · exact (own_in (h.made q hq).1 ad e).2
  · exact (own_in (h.made q hq).2.1 ad e).2
theorem MTab.kept {w w' : World} {t : MT} (h : MTab w t) (hb : Below w.heap.size w w') : MTab w' t := h.same (fun g hg => hb.block g (h.in_ g hg))
theorem MTab.node {w : World} {t : MT} (h : MTab w t) {i : Nat} (hi : i < t.ns.length) : ∃ (ad : Addr) (q : Nd), t.nA = some ad ∧ t.ns[i]? = some q ∧ AtN w (ad.add (i * 16)) q ∧ EIn w q.e ∧ ∀ g, nx t.ns g i = q.t.getD g 0 := by
  have hq := List.getElem?_eq_getElem hi
  generalize t.ns[i] = q at hq
  obtain ⟨ad, e, hat⟩ := lies_node h.nrow.lies hq
  obtain ⟨h1, h2, h3⟩ := h.made q (List.mem_of_getElem? hq)
  exact ⟨ad, q, e, hq, hat, ⟨h1.in_ h3.1, h2.in_ h3.2⟩, fun g => nx_of hq g⟩
theorem MTab.cells {w : World} {t : MT} (h : MTab w t) : w.cell? ⟨t.b, 0, none⟩ = some (.slice t.hA t.hs.length t.hc) ∧ w.cell? ⟨t.b, 1, none⟩ = some (.slice t.nA t.ns.length t.nc) := by
  refine ⟨?_, ?_⟩ <;> simp [World.cell?, h.obj]
set_option maxRecDepth 100000 in
set_option maxHeartbeats 4000000 in
theorem mnext_any {w : World} {t : MT} (h : MTab w t) {i : Nat} (hi : i < t.ns.length) : Calls Try.prog 38 #[.pointer (some ⟨t.b, 0, none⟩), .int .i64 i] w fun e w' => e = .returned (.int .i64 (nx t.ns 0 i)) ∧ w' = w := by
  obtain ⟨ad, q, hA, hq, ⟨-, hT⟩, -, hN⟩ := h.node hi
  obtain ⟨-, c1⟩ := h.cells
  have c2 := hT 0 (by omega)
  rw [← hN 0, Nat.add_zero] at c2
  rw [hA] at c1
  obtain ⟨v, hv⟩ : ∃ v, nx t.ns 0 i = v := ⟨_, rfl⟩
  obtain ⟨n, hn⟩ : ∃ n, t.ns.length = n := ⟨_, rfl⟩
  rw [hv] at c2 ⊢
  rw [hn] at c1 hi
  have i0 : (i : Int) < n := by omega
  clear h hA hq hT hN hv hn
  go_enter Try.func38, Try.ntmps38
  go_wp2_with fail
  go_ret
  exact ⟨rfl, rfl⟩
end Go.Proofs.Ytkodhlaojlgejaa
namespace Go.Proofs.Ytkodhlaojlgejaa
open Go.RowKit
/-- Is a node ahead? None is the head's place. -/
def aheadB (N : List Nd) (i : Nat) (x : Er) : Bool := decide (i ≠ 0) && decide (ordE (eo N i) x < 0)
set_option maxRecDepth 100000 in
set_option maxHeartbeats 8000000 in
theorem misAhead_any {w : World} {t : MT} (h : MTab w t) {i : Nat} (hi : i < t.ns.length) (x : En) (hx : EIn w x) : Calls Try.prog 49 #[.pointer (some ⟨t.b, 0, none⟩), .int .i64 i, x.val] w fun e w' => e = .returned (.bool (aheadB t.ns i x.rd)) ∧ Below w.heap.size w w' := by
  obtain ⟨B, hB⟩ : ∃ B, aheadB t.ns i x.rd = B := ⟨_, rfl⟩
  rw [hB, En.val_eq]
  obtain ⟨xn, hxn⟩ : ∃ m, x.k.l.length = m := ⟨_, rfl⟩
  obtain ⟨xv, hxv⟩ : ∃ m, x.v.l.length = m := ⟨_, rfl⟩
  obtain ⟨HB1, C1⟩ := box_cells w (.slice x.k.a xn x.k.c) (.int .i64 x.s) (.bool x.d) (.slice x.v.a xv x.v.c)
  have HBX := Lib.hid C1
  obtain ⟨w1, hw1⟩ : ∃ w1, w.alloc (.cells #[.slice x.k.a xn x.k.c, .int .i64 x.s, .bool x.d, .slice x.v.a xv x.v.c] 26) = w1 := ⟨_, rfl⟩
  rw [hw1] at HBX HB1
  have HB := Lib.hid hB
  have HBEL := Lib.hid HB1
  by_cases h0 : i = 0
  · subst h0
    have HF : Hid (B = false) := Lib.hid (by rw [← hB]; simp [aheadB])
    rw [hxn, hxv]
    clear h hx hB C1 HB1 hxn hxv HB HBX
    go_enter Try.func49, Try.ntmps49
    go_upto_region 1 with fail
    try rw [hw1]
    clear hw1
    have BB : Hid (Below w.heap.size w w1) := HBEL
    refine wp_region_held (S := fun _ => True) (by kernel_rfl) ?_
    change wpAnyH _ _ _ _ _ _ _ _ (World.drew _)
    have s0 : (fun _ : World => True) w1.drew := trivial
    refine wpAnyH_take (i := 0) (v := .int .i64 0) rfl (by kernel_rfl) (by kernel_rfl) (by kernel_rfl) (fun _ _ _ h => h) (Or.inl ⟨by first | kernel_rfl | rfl, fun _ hS => by go_simp⟩) s0 ?_
    try simp only [Act.put, List.getElem_toArray, List.getElem_cons_zero, List.getElem_cons_succ, List.setIfInBounds_toArray, List.set_cons_zero, List.set_cons_succ]
    refine wpAnyH_take (i := 1) (v := .bool false) rfl (by kernel_rfl) (by kernel_rfl) (by kernel_rfl) (fun _ _ _ h => h) (Or.inl ⟨by first | kernel_rfl | rfl, fun _ hS => by go_simp⟩) s0 ?_
    try simp only [Act.put, List.getElem_toArray, List.getElem_cons_zero, List.getElem_cons_succ, List.setIfInBounds_toArray, List.set_cons_zero, List.set_cons_succ]
    refine wpAnyH_take (i := 2) (v := .bool false) rfl (by kernel_rfl) (by kernel_rfl) (by kernel_rfl) (fun _ _ _ h => h) (Or.inl ⟨by first | kernel_rfl | rfl, fun _ hS => by go_simp⟩) s0 ?_
    try simp only [Act.put, List.getElem_toArray, List.getElem_cons_zero, List.getElem_cons_succ, List.setIfInBounds_toArray, List.set_cons_zero, List.set_cons_succ]
    refine wpAnyH_take (i := 3) (v := undef) rfl (by kernel_rfl) (by kernel_rfl) (by kernel_rfl) (fun _ _ _ h => h) (Or.inr ⟨by first | kernel_rfl | rfl, rfl⟩) s0 ?_
    try simp only [Act.put, List.getElem_toArray, List.getElem_cons_zero, List.getElem_cons_succ, List.setIfInBounds_toArray, List.set_cons_zero, List.set_cons_succ]
    refine wpAnyH_take (i := 4) (v := undef) rfl (by kernel_rfl) (by kernel_rfl) (by kernel_rfl) (fun _ _ _ h => h) (Or.inr ⟨by first | kernel_rfl | rfl, rfl⟩) s0 ?_
    try simp only [Act.put, List.getElem_toArray, List.getElem_cons_zero, List.getElem_cons_succ, List.setIfInBounds_toArray, List.set_cons_zero, List.set_cons_succ]
    refine wpAnyH_take (i := 5) (v := undef) rfl (by kernel_rfl) (by kernel_rfl) (by kernel_rfl) (fun _ _ _ h => h) (Or.inr ⟨by first | kernel_rfl | rfl, rfl⟩) s0 ?_
    try simp only [Act.put, List.getElem_toArray, List.getElem_cons_zero, List.getElem_cons_succ, List.setIfInBounds_toArray, List.set_cons_zero, List.set_cons_succ]
    refine wpAnyH_take (i := 6) (v := undef) rfl (by kernel_rfl) (by kernel_rfl) (by kernel_rfl) (fun _ _ _ h => h) (Or.inr ⟨by first | kernel_rfl | rfl, rfl⟩) s0 ?_
    try simp only [Act.put, List.getElem_toArray, List.getElem_cons_zero, List.getElem_cons_succ, List.setIfInBounds_toArray, List.set_cons_zero, List.set_cons_succ]
    refine wpAnyH_take (i := 7) (v := undef) rfl (by kernel_rfl) (by kernel_rfl) (by kernel_rfl) (fun _ _ _ h => h) (Or.inr ⟨by first | kernel_rfl | rfl, rfl⟩) s0 ?_
    try simp only [Act.put, List.getElem_toArray, List.getElem_cons_zero, List.getElem_cons_succ, List.setIfInBounds_toArray, List.set_cons_zero, List.set_cons_succ]
    refine wpAnyH_take (i := 8) (v := undef) rfl (by kernel_rfl) (by kernel_rfl) (by kernel_rfl) (fun _ _ _ h => h) (Or.inr ⟨by first | kernel_rfl | rfl, rfl⟩) s0 ?_
    try simp only [Act.put, List.getElem_toArray, List.getElem_cons_zero, List.getElem_cons_succ, List.setIfInBounds_toArray, List.set_cons_zero, List.set_cons_succ]
    refine wpAnyH_take (i := 9) (v := undef) rfl (by kernel_rfl) (by kernel_rfl) (by kernel_rfl) (fun _ _ _ h => h) (Or.inr ⟨by first | kernel_rfl | rfl, rfl⟩) s0 ?_
    try simp only [Act.put, List.getElem_toArray, List.getElem_cons_zero, List.getElem_cons_succ, List.setIfInBounds_toArray, List.set_cons_zero, List.set_cons_succ]
    refine wpAnyH_take (i := 10) (v := undef) rfl (by kernel_rfl) (by kernel_rfl) (by kernel_rfl) (fun _ _ _ h => h) (Or.inr ⟨by first | kernel_rfl | rfl, rfl⟩) s0 ?_
    try simp only [Act.put, List.getElem_toArray, List.getElem_cons_zero, List.getElem_cons_succ, List.setIfInBounds_toArray, List.set_cons_zero, List.set_cons_succ]
    refine wpAnyH_take (i := 11) (v := undef) rfl (by kernel_rfl) (by kernel_rfl) (by kernel_rfl) (fun _ _ _ h => h) (Or.inr ⟨by first | kernel_rfl | rfl, rfl⟩) s0 ?_
    try simp only [Act.put, List.getElem_toArray, List.getElem_cons_zero, List.getElem_cons_succ, List.setIfInBounds_toArray, List.set_cons_zero, List.set_cons_succ]
    refine wpAnyH_take (i := 12) (v := undef) rfl (by kernel_rfl) (by kernel_rfl) (by kernel_rfl) (fun _ _ _ h => h) (Or.inr ⟨by first | kernel_rfl | rfl, rfl⟩) s0 ?_
    try simp only [Act.put, List.getElem_toArray, List.getElem_cons_zero, List.getElem_cons_succ, List.setIfInBounds_toArray, List.set_cons_zero, List.set_cons_succ]
    refine wpAnyH_take (i := 13) (v := undef) rfl (by kernel_rfl) (by kernel_rfl) (by kernel_rfl) (fun _ _ _ h => h) (Or.inr ⟨by first | kernel_rfl | rfl, rfl⟩) s0 ?_
    try simp only [Act.put, List.getElem_toArray, List.getElem_cons_zero, List.getElem_cons_succ, List.setIfInBounds_toArray, List.set_cons_zero, List.set_cons_succ]
    refine wpAnyH_take (i := 14) (v := .bool false) rfl (by kernel_rfl) (by kernel_rfl) (by kernel_rfl) (fun _ _ _ h => h) (Or.inl ⟨by first | kernel_rfl | rfl, fun _ hS => by go_simp⟩) s0 ?_
    try simp only [Act.put, List.getElem_toArray, List.getElem_cons_zero, List.getElem_cons_succ, List.setIfInBounds_toArray, List.set_cons_zero, List.set_cons_succ]
    refine wpAnyH_take (i := 15) (v := .bool false) rfl (by kernel_rfl) (by kernel_rfl) (by kernel_rfl) (fun _ _ _ h => h) (Or.inl ⟨by first | kernel_rfl | rfl, fun _ hS => by go_simp⟩) s0 ?_
    try simp only [Act.put, List.getElem_toArray, List.getElem_cons_zero, List.getElem_cons_succ, List.setIfInBounds_toArray, List.set_cons_zero, List.set_cons_succ]
    refine wpAnyH_done (by kernel_rfl) ?_ _
    try simp only [Act.put, List.getElem_toArray, List.getElem_cons_zero, List.getElem_cons_succ, List.setIfInBounds_toArray, List.set_cons_zero, List.set_cons_succ]
    all_goals
      go_wp2_with fail
      go_ret
      exact ⟨by rw [HF.out]; try rfl, by first | exact BB.out | exact BB.out.drew⟩
  · obtain ⟨ad, q, hA, hq, -, hE, -⟩ := h.node hi
    have HTB := Lib.hid h
    have HQ := Lib.hid hq
    obtain ⟨qn, hqn⟩ : ∃ m, q.e.k.l.length = m := ⟨_, rfl⟩
    obtain ⟨qv, hqv⟩ : ∃ m, q.e.v.l.length = m := ⟨_, rfl⟩
    obtain ⟨o, ho⟩ : ∃ o, ordE (eo t.ns i) x.rd = o := ⟨_, rfl⟩
    obtain ⟨n, hn⟩ : ∃ n, t.ns.length = n := ⟨_, rfl⟩
    have HOR : Hid (∀ W, Below w.heap.size w W → Calls Try.prog 39 #[.agg #[.slice q.e.k.a qn q.e.k.c, .int .i64 q.e.s, .bool q.e.d, .slice q.e.v.a qv q.e.v.c], .agg #[.slice x.k.a xn x.k.c, .int .i64 x.s, .bool x.d, .slice x.v.a xv x.v.c]] W fun e w' => e = .returned (.int .i64 o) ∧ Below W.heap.size W w') := Lib.hid (fun W hW => by
      have := order_any q.e x W (hE.kept hW) (hx.kept hW)
      rwa [En.val_eq, En.val_eq, hqn, hqv, hxn, hxv, ← eo_of hq, ho] at this)
    have HSC : Hid (∀ W, Below w1.heap.size w1 W → W.cell? ⟨t.b, 1, none⟩ = some (.slice (some ad) n t.nc) ∧ (W.cell? (ad.add (i * 16)) = some (.slice q.e.k.a qn q.e.k.c) ∧ W.cell? ⟨(ad.add (i * 16)).block, (ad.add (i * 16)).off + 1, none⟩ = some (.int .i64 q.e.s) ∧ W.cell? ⟨(ad.add (i * 16)).block, (ad.add (i * 16)).off + 2, none⟩ = some (.bool q.e.d) ∧ W.cell? ⟨(ad.add (i * 16)).block, (ad.add (i * 16)).off + 3, none⟩ = some (.slice q.e.v.a qv q.e.v.c)) ∧ W.cell? ⟨w.heap.size, 0, none⟩ = some (.slice x.k.a xn x.k.c) ∧ W.cell? ⟨w.heap.size, 1, none⟩ = some (.int .i64 x.s) ∧ W.cell? ⟨w.heap.size, 2, none⟩ = some (.bool x.d) ∧ W.cell? ⟨w.heap.size, 3, none⟩ = some (.slice x.v.a xv x.v.c)) := Lib.hid (fun W hW => by
      have hT := HTB.out.kept (HBEL.out.trans (hW.mono HBEL.out.size))
      have h1 := (hT.cells).2
      rw [hA, hn] at h1
      have h2 := lies_node_at (hA ▸ hT.nrow.lies) HQ.out
      have h3 := h2.1
      unfold AtE at h3
      rw [hqn, hqv] at h3
      exact ⟨h1, h3, HBX.out W hW⟩)
    have HBV : Hid (decide (o < 0) = B) := Lib.hid (by rw [← hB]; unfold aheadB; rw [ho]; simp [h0])
    have i0 : (i : Int) < n := by omega
    have z0 : ((i : Int) != 0) = true := by simp; omega
    rw [hxn, hxv]
    clear h hx hB C1 HB1 hxn hxv hqn hqv hq hE ho HTB HQ h0 hi hn hA HB
    obtain ⟨b2, hb2⟩ : ∃ b, decide (o < 0) = b := ⟨_, rfl⟩
    have HB2 := Lib.hid hb2
    go_enter Try.func49, Try.ntmps49
    go_upto_region 1 with fail
    try rw [hw1]
    clear hw1
    have BB : Hid (Below w1.heap.size w1 w1) := Lib.hid (Below.refl _ _)
    go_region_held3 (fun W => W.cell? ⟨t.b, 1, none⟩ = some (.slice (some ad) n t.nc) ∧ (W.cell? (ad.add (i * 16)) = some (.slice q.e.k.a qn q.e.k.c) ∧ W.cell? ⟨(ad.add (i * 16)).block, (ad.add (i * 16)).off + 1, none⟩ = some (.int .i64 q.e.s) ∧ W.cell? ⟨(ad.add (i * 16)).block, (ad.add (i * 16)).off + 2, none⟩ = some (.bool q.e.d) ∧ W.cell? ⟨(ad.add (i * 16)).block, (ad.add (i * 16)).off + 3, none⟩ = some (.slice q.e.v.a qv q.e.v.c)) ∧ W.cell? ⟨w.heap.size, 0, none⟩ = some (.slice x.k.a xn x.k.c) ∧ W.cell? ⟨w.heap.size, 1, none⟩ = some (.int .i64 x.s) ∧ W.cell? ⟨w.heap.size, 2, none⟩ = some (.bool x.d) ∧ W.cell? ⟨w.heap.size, 3, none⟩ = some (.slice x.v.a xv x.v.c)) (first | exact HSC.out _ BB.out | exact HSC.out _ BB.out.drew | go_keep) (first
      | (go_at_call 39; refine (HOR.out _ (HBEL.out.trans ((by first | exact BB.out | exact BB.out.drew : Below w1.heap.size w1 _).mono HBEL.out.size))).mono ?_; rintro e w2 ⟨rfl, b2⟩; have BB : Hid (Below w1.heap.size w1 w2) := Lib.hid (below_then (by first | exact BB.out | exact BB.out.drew) b2); clear b2))
    all_goals
      go_wp2_with fail
      go_ret
      exact ⟨by rw [← HBV.out, HB2.out]; try rfl, HBEL.out.trans (BB.out.mono HBEL.out.size)⟩
set_option maxRecDepth 100000 in
theorem mlen_any {w : World} {t : MT} (h : MTab w t) (hf : t.ns.length ≤ 140737488355328) : Calls Try.prog 16 #[.pointer (some ⟨t.b, 0, none⟩)] w fun e w' => e = .returned (.int .i64 ((t.ns.length - 1 : Nat) : Int)) ∧ w' = w := by
  obtain ⟨-, c1⟩ := h.cells
  have hp := h.skip.pos
  obtain ⟨n, hn⟩ : ∃ n, t.ns.length = n := ⟨_, rfl⟩
  obtain ⟨m, hm⟩ : ∃ m, n - 1 = m := ⟨_, rfl⟩
  rw [hn] at c1 hp hf ⊢
  have w1 : (n : Int) - 1 = (m : Int) := by omega
  have HW := Lib.hid w1
  rw [hm]
  clear h hn w1
  go_enter Try.func16, Try.ntmps16
  go_wp2_with fail
  go_ret
  exact ⟨by rw [← HW.out]; first | rfl | simp, rfl⟩
end Go.Proofs.Ytkodhlaojlgejaa
