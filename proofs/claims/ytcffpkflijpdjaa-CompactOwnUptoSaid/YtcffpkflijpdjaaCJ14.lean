/-
  Walks: an entry is put behind those that are ahead. Walks: a new table; a nil one. Walks: what tables are asked: their level, whether they overlap. Walks: tables of a level; the least by its number. Walks: the least of some tables, by their numbers. Walks: what tells whether a table overlaps some others.
-/
import Derived.Laws.Small
import Derived.Test.YtcffpkflijpdjaaCJ13
set_option linter.unusedSimpArgs false
set_option linter.unusedVariables false
namespace Go.Proofs.Ytcffpkflijpdjaa
open Go.RowKit
theorem own_typeN {w : World} {B : Nat} {e : TypeId} {size : Nat} {A : Option Addr} {n c m : Nat} {xs : List Value} (h : w.ownsRow B e size (.slice A n c) m xs) : ∀ ad, A = some ad → ∃ cs, w.heap[ad.block]? = some (.cells cs e (0, 0)) := fun ad ha => by
  rcases h.2 with ⟨hn, _⟩ | ⟨g, cap, cur, e', _, h2, _⟩
  · rw [ha] at hn; cases hn
  · rw [ha] at e'
    injection e' with e'
    injection e' with e'
    subst e'
    exact ⟨_, h2⟩
theorem towerOf_step (N : List Nd) (la : List Nat) {j : Nat} (hj : j < 12) : towerOf N la (j + 1) = (towerOf N la j).set j (nx N j (la.getD j 0)) := by
  refine List.ext_getElem? (fun h => ?_)
  by_cases hh : h < 12
  · by_cases e : j = h
    · subst e
      rw [List.getElem?_set_self (by rw [towerOf_len]; exact hj)]
      unfold towerOf
      rw [List.getElem?_map, List.getElem?_range hh]
      simp
    · rw [List.getElem?_set_ne e]
      unfold towerOf
      rw [List.getElem?_map, List.getElem?_map, List.getElem?_range hh]
      simp only [Option.map_some]
      congr 1
      by_cases k : h < j
      · rw [if_pos (by omega), if_pos k]
      · rw [if_neg (by omega), if_neg k]
  · rw [List.getElem?_eq_none (by rw [towerOf_len]; omega), List.getElem?_eq_none (by rw [List.length_set, towerOf_len]; omega)]
theorem raise_mem {N : List Nd} {la : List Nat} {v : Nat} : ∀ {j : Nat} {q : Nd}, q ∈ raise N la v j → ∃ p ∈ N, p.e = q.e
  | 0, q, h => ⟨q, h, rfl⟩
  | j + 1, q, h => by
    rw [raise] at h
    unfold setT at h
    split at h
    · exact raise_mem h
    · next p hp =>
      rcases List.mem_or_eq_of_mem_set h with e | e
      · exact raise_mem e
      · obtain ⟨r, hr, e2⟩ := raise_mem (List.mem_of_getElem? hp)
        exact ⟨r, hr, by rw [e]; exact e2⟩
/-- While towers are turned. -/
structure InsS (w W : World) (t : MT) (z g6 : Nat) (x' : En) (la : List Nat) (h : Nat) : Prop where
  kp : Kp (fun g => g < w.heap.size ∧ ¬ SlB t.nA g) w W
  nrow : Nrow W 0 t.nA t.nc (raise t.ns la t.ns.length h)
  lab : W.heap[z]? = some (.cells (tvals la).toArray 91 (0, 0))
  nb : W.heap[g6]? = some (.cells (x'.cells ++ tvals (towerOf t.ns la h)).toArray 93 (0, 0))
  xs : Row W w.heap.size x'.k.a x'.k.c x'.k.l ∧ Row W w.heap.size x'.v.a x'.v.c x'.v.l
theorem InsS.kept {w W W' : World} {t : MT} {z g6 h : Nat} {x' : En} {la : List Nat} (s : InsS w W t z g6 x' la h) (hb : Below W.heap.size W W') : InsS w W' t z g6 x' la h :=
  ⟨⟨hb.os.trans s.kp.os, hb.tape.trans s.kp.tape, hb.output.trans s.kp.output, Nat.le_trans s.kp.size hb.size, fun g hg => (hb.block g (by have := s.kp.size; omega)).trans (s.kp.block g hg)⟩, own_kept s.nrow hb (Nat.le_refl _), obj_kept s.lab hb (Nat.le_refl _), obj_kept s.nb hb (Nat.le_refl _), s.xs.1.kept hb (Nat.le_refl _), s.xs.2.kept hb (Nat.le_refl _)⟩
/-- Where the nodes lie nothing else does. -/
theorem nodes_apart {w : World} {t : MT} (h : MTab w t) : (∀ g, SlB t.hA g → ¬ SlB t.nA g) ∧ ¬ SlB t.nA t.b ∧ (∀ q ∈ t.ns, ∀ g, (SlB q.e.k.a g ∨ SlB q.e.v.a g) → ¬ SlB t.nA g) := by
  have hn : ∀ g, SlB t.nA g → ∃ cs, w.heap[g]? = some (.cells cs 93 (0, 0)) := fun g ⟨ad, e, e2⟩ => by rw [e2]; exact own_typeN h.nrow ad e
  refine ⟨fun g ⟨ad, e, e2⟩ h2 => ?_, fun h2 => ?_, fun q hq g hg h2 => ?_⟩
  · obtain ⟨cs, k⟩ := own_typeN h.hrow ad e
    obtain ⟨cs', k'⟩ := hn g h2
    rw [e2, k] at k'
    injection k' with k'
    injection k' with _ k'
    exact absurd k' (by decide)
  · obtain ⟨cs', k'⟩ := hn _ h2
    rw [h.obj] at k'
    injection k' with k'
    injection k' with _ k'
    exact absurd k' (by decide)
  · obtain ⟨cs', k'⟩ := hn g h2
    obtain ⟨m1, m2, -⟩ := h.made q hq
    rcases hg with ⟨ad, e, e2⟩ | ⟨ad, e, e2⟩
    · obtain ⟨cs, k⟩ := own_typeN m1 ad e
      rw [e2, k] at k'
      injection k' with k'
      injection k' with _ k'
      exact absurd k' (by decide)
    · obtain ⟨cs, k⟩ := own_typeN m2 ad e
      rw [e2, k] at k'
      injection k' with k'
      injection k' with _ k'
      exact absurd k' (by decide)
/-- What of the table stands while towers are turned. -/
theorem InsS.rest {w W : World} {t : MT} {z g6 h : Nat} {x' : En} {la : List Nat} (s : InsS w W t z g6 x' la h) (ht : MTab w t) : W.heap[t.b]? = some (.cells #[.slice t.hA t.hs.length t.hc, .slice t.nA t.ns.length t.nc] 96 (0, 0)) ∧ Irow W 0 t.hA t.hc t.hs ∧ ∀ q ∈ t.ns, Row W 0 q.e.k.a q.e.k.c q.e.k.l ∧ Row W 0 q.e.v.a q.e.v.c q.e.v.l ∧ ErB q.e.rd := by
  obtain ⟨a1, a2, a3⟩ := nodes_apart ht
  have hin := ht.in_
  exact ⟨(s.kp.block _ ⟨hin _ (.inl rfl), a2⟩).trans ht.obj, own_same ht.hrow (fun g hg => s.kp.block g ⟨hin g (.inr (.inl hg)), a1 g hg⟩), fun q hq => ⟨own_same (ht.made q hq).1 (fun g hg => s.kp.block g ⟨hin g (.inr (.inr (.inr ⟨q, hq, .inl hg⟩))), a3 q hq g (.inl hg)⟩), own_same (ht.made q hq).2.1 (fun g hg => s.kp.block g ⟨hin g (.inr (.inr (.inr ⟨q, hq, .inr hg⟩))), a3 q hq g (.inr hg)⟩), (ht.made q hq).2.2⟩⟩
/-- One more height: the new node's tower, and then the last one's. -/
theorem InsS.step {w W : World} {t : MT} {z g6 h : Nat} {x' : En} {la : List Nat} (s : InsS w W t z g6 x' la h) (ht : MTab w t) (hz : w.heap.size ≤ z) (hg : w.heap.size ≤ g6) (hzg : z ≠ g6) (hh : h < 12) (hla : ∀ h, h < 12 → la.getD h 0 < t.ns.length) :
    ∃ ad : Addr, t.nA = some ad ∧ (W.cell? ⟨z, h, none⟩ = some (.int .i64 ((la.getD h 0 : Nat) : Int)) ∧ W.cell? ⟨t.b, 1, none⟩ = some (.slice (some ad) t.ns.length t.nc) ∧ W.cell? ⟨(ad.add (la.getD h 0 * 16)).block, (ad.add (la.getD h 0 * 16)).off + 4 + h, none⟩ = some (.int .i64 ((nx t.ns h (la.getD h 0) : Nat) : Int)) ∧ (∃ u, W.cell? ⟨g6, 4 + h, none⟩ = some u) ∧ W.frozen? ⟨g6, 4 + h, none⟩ = false) ∧
    ∀ W1, W1 = W.setCell ⟨g6, 4 + h, none⟩ (.int .i64 ((nx t.ns h (la.getD h 0) : Nat) : Int)) → W1.cell? ⟨t.b, 1, none⟩ = some (.slice (some ad) t.ns.length t.nc) ∧ (∃ u, W1.cell? ⟨(ad.add (la.getD h 0 * 16)).block, (ad.add (la.getD h 0 * 16)).off + 4 + h, none⟩ = some u) ∧ W1.frozen? ⟨(ad.add (la.getD h 0 * 16)).block, (ad.add (la.getD h 0 * 16)).off + 4 + h, none⟩ = false ∧ InsS w (W1.setCell ⟨(ad.add (la.getD h 0 * 16)).block, (ad.add (la.getD h 0 * 16)).off + 4 + h, none⟩ (.int .i64 (t.ns.length : Int))) t z g6 x' la (h + 1) := by
  obtain ⟨g, hA, -, hgs, -⟩ := ht.nrow.place ht.skip.pos
  have hl := hla h hh
  obtain ⟨a, ha⟩ : ∃ a, la.getD h 0 = a := ⟨_, rfl⟩
  rw [ha] at hl ⊢
  have hlr : a < (raise t.ns la t.ns.length h).length := by rw [raise_len]; exact hl
  have htr := raise_tall ht.tall la t.ns.length h
  have e0 : ((⟨g, 0, none⟩ : Addr).add (a * 16)) = ⟨g, a * 16, none⟩ := add_zero_ g _
  have hnxr : nx (raise t.ns la t.ns.length h) h a = nx t.ns h a := by rw [raise_nx ht.tall hla (by omega), if_neg (by omega)]
  obtain ⟨q, hq⟩ : ∃ q, (raise t.ns la t.ns.length h)[a]? = some q := ⟨_, List.getElem?_eq_getElem hlr⟩
  have hat : ∀ V, Nrow V 0 t.nA t.nc (raise t.ns la t.ns.length h) → V.cell? ⟨g, a * 16 + 4 + h, none⟩ = some (.int .i64 ((nx t.ns h a : Nat) : Int)) := fun V hV => by
    have h1 := (lies_node_at (hA ▸ hV.lies) hq).2 h hh
    rw [e0, ← nx_of hq, hnxr] at h1
    exact h1
  have hne : g6 ≠ g := by omega
  have hb1 : SlB t.nA g := ⟨_, hA, rfl⟩
  refine ⟨⟨g, 0, none⟩, hA, ⟨?_, ?_, ?_, ⟨.int .i64 (((towerOf t.ns la h).getD h 0 : Nat) : Int), ?_⟩, by simp [World.frozen?, s.nb]⟩, fun W1 hW1 => ?_⟩
  · unfold World.cell?
    simp only
    rw [s.lab]
    simp only [List.getElem?_toArray]
    rw [tvals_get la hh, ha]
    rfl
  · rw [← hA]; simp [World.cell?, (s.rest ht).1]
  · rw [e0]; exact hat W s.nrow
  · unfold World.cell?
    simp only
    rw [s.nb]
    simp only [List.getElem?_toArray]
    rw [List.getElem?_append_right (by simp [En.cells])]
    have : 4 + h - x'.cells.length = h := by simp [En.cells]
    rw [this, tvals_get _ hh]
    rfl
  · have hset : ∀ k, k ≠ g6 → W1.heap[k]? = W.heap[k]? := fun k hk => by rw [hW1]; exact Below.heap_setCell W ⟨g6, 4 + h, none⟩ _ k (by simp only; omega)
    have hnr : Nrow W1 0 t.nA t.nc (raise t.ns la t.ns.length h) := own_same s.nrow (fun k hk => hset k (by obtain ⟨ad, e, e2⟩ := hk; rw [hA] at e; injection e with e; subst e; simp only at e2; omega))
    obtain ⟨t1, t2, t3⟩ := hnr.turn (h := h) hA htr hlr hh
    rw [e0]
    rw [Nat.add_assoc]
    have hob : W1.heap[t.b]? = W.heap[t.b]? := hset _ (by have := ht.in_ _ (.inl rfl); omega)
    refine ⟨?_, t1, t2, ?_⟩
    · rw [← hA]; simp [World.cell?, hob, (s.rest ht).1]
    · have hset2 : ∀ k, k ≠ g → (W1.setCell ⟨g, a * 16 + (4 + h), none⟩ (.int .i64 (t.ns.length : Int))).heap[k]? = W1.heap[k]? := fun k hk => Below.heap_setCell W1 ⟨g, a * 16 + (4 + h), none⟩ _ k (by simp only; omega)
      have hsz : (W1.setCell ⟨g, a * 16 + (4 + h), none⟩ (.int .i64 (t.ns.length : Int))).heap.size = W.heap.size := by rw [hW1]; simp
      have hall : ∀ k, k ≠ g6 → k ≠ g → (W1.setCell ⟨g, a * 16 + (4 + h), none⟩ (.int .i64 (t.ns.length : Int))).heap[k]? = W.heap[k]? := fun k k1 k2 => (hset2 k k2).trans (hset k k1)
      refine ⟨⟨by rw [hW1]; exact s.kp.os, by rw [hW1]; exact s.kp.tape, by rw [hW1]; exact s.kp.output, by rw [hsz]; exact s.kp.size, fun k hk => ?_⟩, ?_, ?_, ?_, ?_, ?_⟩
      · refine (hall k (by omega) (fun e => ?_)).trans (s.kp.block k hk)
        subst e
        exact hk.2 hb1
      · have := t3 t.ns.length
        rw [raise, ha]
        exact this
      · rw [hall z (by omega) (by omega)]; exact s.lab
      · rw [hset2 g6 hne, hW1]
        simp only [World.setCell, Array.getElem?_modify, if_true, s.nb, Option.map_some]
        rw [List.setIfInBounds_toArray, List.set_append_right _ _ (by simp [En.cells])]
        have e4 : 4 + h - x'.cells.length = h := by simp [En.cells]
        rw [e4, tvals_set (towerOf_len _ _ _) hh, towerOf_step t.ns la hh, ha]
        simp
      · refine own_same s.xs.1 (fun k hk => ?_)
        obtain ⟨ad, e, e2⟩ := hk
        have hi := own_in s.xs.1 ad e
        refine hall k (fun e3 => ?_) (by omega)
        obtain ⟨cs, k1⟩ := own_typeN s.xs.1 ad e
        rw [← e2, e3, s.nb] at k1
        injection k1 with k1
        injection k1 with _ k1
        exact absurd k1 (by decide)
      · refine own_same s.xs.2 (fun k hk => ?_)
        obtain ⟨ad, e, e2⟩ := hk
        have hi := own_in s.xs.2 ad e
        refine hall k (fun e3 => ?_) (by omega)
        obtain ⟨cs, k1⟩ := own_typeN s.xs.2 ad e
        rw [← e2, e3, s.nb] at k1
        injection k1 with k1
        injection k1 with _ k1
        exact absurd k1 (by decide)
/-- What Put leaves: the table with one more, all else as it was. -/
structure Tds (S S' : Nat → Prop) (w w' : World) : Prop where
  os : w'.os = w.os
  tape : w'.tape = w.tape
  output : w'.output = w.output
  size : w.heap.size ≤ w'.heap.size
  block : ∀ g, g < w.heap.size → ¬ S g → w'.heap[g]? = w.heap[g]?
  grows : ∀ g, S' g → S g ∨ w.heap.size ≤ g
theorem Tds.refl (S : Nat → Prop) (w : World) : Tds S S w w := ⟨rfl, rfl, rfl, Nat.le_refl _, fun _ _ _ => rfl, fun _ h => .inl h⟩
theorem Tds.of_below {S : Nat → Prop} {w w' : World} (h : Below w.heap.size w w') : Tds S S w w' := ⟨h.os, h.tape, h.output, h.size, fun g hg _ => h.block g hg, fun _ h => .inl h⟩
theorem Tds.trans {S S' S'' : Nat → Prop} {w w1 w2 : World} (h : Tds S S' w w1) (k : Tds S' S'' w1 w2) : Tds S S'' w w2 :=
  ⟨k.os.trans h.os, k.tape.trans h.tape, k.output.trans h.output, Nat.le_trans h.size k.size, fun g hg hs => (k.block g (by have := h.size; omega) (fun hs' => by rcases h.grows g hs' with e | e; exact hs e; omega)).trans (h.block g hg hs), fun g hg => by
    rcases k.grows g hg with e | e
    · exact h.grows g e
    · exact .inr (Nat.le_trans h.size e)⟩
/-- What stands when the node has been appended: ahead of the last store. -/
structure Ins9 (w W : World) (t : MT) (A8 : Option Addr) (c8 : Nat) (N : List Nd) (x' : En) : Prop where
  size : w.heap.size ≤ W.heap.size
  os : W.os = w.os
  tape : W.tape = w.tape
  output : W.output = w.output
  block : ∀ g, g < w.heap.size → ¬ SlB t.nA g → W.heap[g]? = w.heap[g]?
  nrow : Nrow W 0 A8 c8 N
  place : ∀ g, SlB A8 g → SlB t.nA g ∨ w.heap.size ≤ g
  obj : W.heap[t.b]? = some (.cells #[.slice t.hA t.hs.length t.hc, .slice t.nA t.ns.length t.nc] 96 (0, 0))
  xs : Row W w.heap.size x'.k.a x'.k.c x'.k.l ∧ Row W w.heap.size x'.v.a x'.v.c x'.v.l
theorem Ins9.done {w W : World} {t : MT} {A8 : Option Addr} {c8 j : Nat} {la : List Nat} {x' x : En} (s : Ins9 w W t A8 c8 (putN t.ns la j x') x') (h : MTab w t) (hx : x'.rd = x.rd) (hxb : ErB x.rd) (hlast : LastOk t.ns x.rd la) (hne : nx t.ns 0 (la.getD 0 0) = 0 ∨ ordE (eo t.ns (nx t.ns 0 (la.getD 0 0))) x.rd ≠ 0) (hg : GoodE x.rd) (h1 : 1 ≤ j) (h12 : j ≤ 12) :
    ∃ t' : MT, t'.b = t.b ∧ MTab (W.setCell ⟨t.b, 1, none⟩ (.slice A8 (t.ns.length + 1) c8)) t' ∧ t'.has.Perm (x.rd :: t.has) ∧ t'.ns.length = t.ns.length + 1 ∧ Tds t.own t'.own w (W.setCell ⟨t.b, 1, none⟩ (.slice A8 (t.ns.length + 1) c8)) := by
  obtain ⟨C', hsk, hperm⟩ := put_skip (x := x') h.tall h.skip (by rw [hx]; exact hlast) (by rw [hx]; exact hne) h1 h12 (by rw [hx]; exact hg)
  rw [hx] at hperm
  obtain ⟨W9, hW9⟩ : ∃ W9, W.setCell ⟨t.b, 1, none⟩ (.slice A8 (t.ns.length + 1) c8) = W9 := ⟨_, rfl⟩
  rw [hW9]
  have hoth : ∀ g, g ≠ t.b → W9.heap[g]? = W.heap[g]? := fun g hg => by rw [← hW9]; exact Below.heap_setCell W ⟨t.b, 1, none⟩ _ g (by simp only; omega)
  have hobj : W9.heap[t.b]? = some (.cells #[.slice t.hA t.hs.length t.hc, .slice A8 (t.ns.length + 1) c8] 96 (0, 0)) := by
    rw [← hW9]
    simp [World.setCell, Array.getElem?_modify, s.obj]
  have hsz : W9.heap.size = W.heap.size := by rw [← hW9]; simp
  have hin := h.in_
  obtain ⟨a1, a2, a3⟩ := nodes_apart h
  have htype : ∀ {B : Nat} {e : TypeId} {size : Nat} {A : Option Addr} {n c m : Nat} {xs : List Value}, W.ownsRow B e size (.slice A n c) m xs → e ≠ 96 → ∀ g, SlB A g → g ≠ t.b := fun {B e size A n c m xs} hr ht g ⟨ad, e1, e2⟩ e3 => by
    obtain ⟨cs, k⟩ := own_typeN hr ad e1
    rw [← e2, e3, s.obj] at k
    injection k with k
    injection k with _ k
    exact ht k.symm
  have hrowH : Irow W 0 t.hA t.hc t.hs := own_same h.hrow (fun g hg => s.block g (hin g (.inr (.inl hg))) (a1 g hg))
  have hmade : ∀ q ∈ t.ns, Row W 0 q.e.k.a q.e.k.c q.e.k.l ∧ Row W 0 q.e.v.a q.e.v.c q.e.v.l := fun q hq => ⟨own_same (h.made q hq).1 (fun g hg => s.block g (hin g (.inr (.inr (.inr ⟨q, hq, .inl hg⟩)))) (a3 q hq g (.inl hg))), own_same (h.made q hq).2.1 (fun g hg => s.block g (hin g (.inr (.inr (.inr ⟨q, hq, .inr hg⟩)))) (a3 q hq g (.inr hg)))⟩
  have hmem : ∀ q ∈ putN t.ns la j x', (∃ p ∈ t.ns, p.e = q.e) ∨ q.e = x' := fun q hq => by
    rcases List.mem_append.1 hq with e | e
    · exact .inl (raise_mem e)
    · exact .inr (by rw [List.mem_singleton.1 e])
  refine ⟨⟨t.b, t.hA, t.hc, t.hs, A8, c8, putN t.ns la j x', C'⟩, rfl, ⟨by rw [putN_len]; exact hobj, own_same hrowH (fun g hg => hoth g (htype hrowH (by decide) g hg)), own_same s.nrow (fun g hg => hoth g (htype s.nrow (by decide) g hg)), fun q hq => ?_, putN_tall h.tall la j x', hsk⟩, hperm, putN_len _ _ _ _, ⟨by rw [← hW9]; exact s.os, by rw [← hW9]; exact s.tape, by rw [← hW9]; exact s.output, by rw [hsz]; exact s.size, fun g hg hn => ?_, fun g hg => ?_⟩⟩
  · rcases hmem q hq with ⟨p, hp, e⟩ | e
    · rw [← e]
      obtain ⟨m1, m2⟩ := hmade p hp
      exact ⟨own_same m1 (fun g hg => hoth g (htype m1 (by decide) g hg)), own_same m2 (fun g hg => hoth g (htype m2 (by decide) g hg)), (h.made p hp).2.2⟩
    · rw [e]
      exact ⟨own_mono (own_same s.xs.1 (fun g hg => hoth g (htype s.xs.1 (by decide) g hg))) (Nat.zero_le _), own_mono (own_same s.xs.2 (fun g hg => hoth g (htype s.xs.2 (by decide) g hg))) (Nat.zero_le _), by rw [hx]; exact hxb⟩
  · exact (hoth g (fun e => hn (.inl e))).trans (s.block g hg (fun e => hn (.inr (.inr (.inl e)))))
  · rcases hg with e | e | e | ⟨q, hq, e⟩
    · exact .inl (.inl e)
    · exact .inl (.inr (.inl e))
    · rcases s.place g e with e | e
      · exact .inl (.inr (.inr (.inl e)))
      · exact .inr e
    · rcases hmem q hq with ⟨p, hp, e2⟩ | e2
      · rw [← e2] at e
        exact .inl (.inr (.inr (.inr ⟨p, hp, e⟩)))
      · rw [e2] at e
        rcases e with ⟨ad, k1, k2⟩ | ⟨ad, k1, k2⟩
        · exact .inr (by rw [k2]; exact (own_in s.xs.1 ad k1).1)
        · exact .inr (by rw [k2]; exact (own_in s.xs.2 ad k1).1)
end Go.Proofs.Ytcffpkflijpdjaa
namespace Go.Proofs.Ytcffpkflijpdjaa
open Go.RowKit
theorem info3 : (Try.prog.info? 3).map (fun i => (i.zero, i.size, i.bytes)) = some (some (.int .i64 0), 1, 8) := by kernel_rfl
theorem irow_made (w : World) : Irow (w.alloc (.cells #[] 3)) w.heap.size (some ⟨w.heap.size, 0, none⟩) 0 [] :=
  World.ownsRow_lit w #[] 0 (Nat.le_refl _) (Nat.zero_le _) rfl
theorem wpList_append_irow (w : World) {ops : Array Oper} {rest : List Oper} {o : Oper} {a : Act} {Q : Exit → Act → World → Prop} (hgd : o.guard = none) (s x : Operand)
    (ho : o.op = .call { callee := .builtin .append, args := #[s, x], argTypes := #[37, 37] })
    (B : Nat) (A : Option Addr) (c : Nat) (M : List Int) (C : Option Addr) (m cm : Nat) (hs : a.eval s = .slice A 0 c) (hx : a.eval x = .slice C m cm) (em : M.length = m) (h : Irow w B A c []) (hm : Lies w C (ivals M)) (hB : B ≤ w.heap.size) (hr : m * 8 ≤ 140737488355328)
    (k : ∀ A' c' w', Irow w' B A' c' M → Below B w w' → wpList Try.prog ops Q rest (a.put o.dst (.slice A' m c')) w') : wpList Try.prog ops Q (o :: rest) a w := by
  subst em
  obtain ⟨i, hi, hz0, hz1, hz2⟩ := info_parts info3
  refine wpList_plain hgd fun K hK => ?_
  obtain ⟨A', c', w', r, h2, h3⟩ := run_append_lies w 37 o.type 3 i (.int .i64 0) 1 8 Try.underlying37 hi hz0 hz1 hz2 rfl (by decide) B A 0 c [] h C M.length cm (ivals M) (by simp [ivals_len]) hm ivals_one (by unfold maxLen; omega) (by omega) hB
  rw [Nat.zero_add] at r h2
  have k' := k A' c' w' (by unfold Irow; simpa using h2) h3
  unfold Oper.wp execOp
  simp only [ho, resolve, invoke, builtin, Sem.run_bind, Sem.run_pure, Result.andThen_ok, List.map_toArray, List.map_cons, List.map_nil, hs, hx, r]
  exact hK _ _ k'
end Go.Proofs.Ytcffpkflijpdjaa
namespace Go.Proofs.Ytcffpkflijpdjaa
open Go.RowKit
/-- One of this level? -/
def atB (v : Int) (q : Ta) : Bool := q.v == v
set_option maxRecDepth 100000 in
set_option maxHeartbeats 4000000 in
theorem levelC_any (q : Ta) (v : Int) (g : Nat) (w : World) (hv : ∀ W, Below w.heap.size w W → W.cell? ⟨g, 0, none⟩ = some (.int .i64 v)) : Calls Try.prog 89 (#[q.val] ++ #[.pointer (some ⟨g, 0, none⟩)]) w fun e w' => e = .returned (.bool (atB v q)) ∧ Below w.heap.size w w' := by
  obtain ⟨b, hb⟩ : ∃ b, atB v q = b := ⟨_, rfl⟩
  have HB := Lib.hid hb
  have d1 : (q.v == v) = b := hb
  rw [hb]
  clear hb
  have a0 := hv (w.alloc (.cells #[.int .i64 q.i, .int .i64 q.v, .int .i64 q.n, .slice q.lo.a q.lo.l.length q.lo.c, .slice q.hi.a q.hi.l.length q.hi.c] 108)) (below_new _ _)
  have B0 := Lib.hid (below_new w (.cells #[.int .i64 q.i, .int .i64 q.v, .int .i64 q.n, .slice q.lo.a q.lo.l.length q.lo.c, .slice q.hi.a q.hi.l.length q.hi.c] 108))
  unfold Ta.val
  clear hv
  go_enter Try.func89, Try.ntmps89
  go_wp2_with fail
  go_ret
  exact ⟨by rw [← d1]; rfl, B0.out⟩
/-- Does it overlap the range? -/
def ovB (lo hi : List Int) (q : Ta) : Bool := decide (cmpL q.lo.l hi ≤ 0) && decide (cmpL q.hi.l lo ≥ 0)
set_option maxRecDepth 100000 in
set_option maxHeartbeats 4000000 in
theorem ovC_any (q : Ta) (lo hi : Sl) (gh gl : Nat) (w : World) (hq : TIns w [q]) (hv : ∀ W, Below w.heap.size w W → W.cell? ⟨gh, 0, none⟩ = some hi.val ∧ W.cell? ⟨gl, 0, none⟩ = some lo.val) (hl : In w lo.a lo.l lo.l.length lo.c) (hh : In w hi.a hi.l hi.l.length hi.c) : Calls Try.prog 91 (#[q.val] ++ #[.pointer (some ⟨gh, 0, none⟩), .pointer (some ⟨gl, 0, none⟩)]) w fun e w' => e = .returned (.bool (ovB lo.l hi.l q)) ∧ Below w.heap.size w w' := by
  obtain ⟨b1, hb1⟩ : ∃ b, decide (cmpL q.lo.l hi.l ≤ 0) = b := ⟨_, rfl⟩
  obtain ⟨b2, hb2⟩ : ∃ b, decide (cmpL q.hi.l lo.l ≥ 0) = b := ⟨_, rfl⟩
  have HB : Hid (ovB lo.l hi.l q = (b1 && b2)) := Lib.hid (by rw [← hb1, ← hb2]; rfl)
  obtain ⟨w0, hw0⟩ : ∃ w0, w.alloc (.cells #[.int .i64 q.i, .int .i64 q.v, .int .i64 q.n, .slice q.lo.a q.lo.l.length q.lo.c, .slice q.hi.a q.hi.l.length q.hi.c] 108) = w0 := ⟨_, rfl⟩
  have B0 : Hid (Below w.heap.size w w0) := Lib.hid (hw0 ▸ below_new w _)
  obtain ⟨a0, a1⟩ := hv w0 B0.out
  have HQ := Lib.hid ((hq.kept B0.out) q (List.mem_singleton.2 rfl))
  have HLO := Lib.hid (hl.kept B0.out)
  have HHI := Lib.hid (hh.kept B0.out)
  unfold Sl.val at a0 a1
  obtain ⟨ln, hln⟩ : ∃ n, lo.l.length = n := ⟨_, rfl⟩
  obtain ⟨hn, hhn⟩ : ∃ n, hi.l.length = n := ⟨_, rfl⟩
  obtain ⟨qn, hqn⟩ : ∃ n, q.lo.l.length = n := ⟨_, rfl⟩
  obtain ⟨qm, hqm⟩ : ∃ n, q.hi.l.length = n := ⟨_, rfl⟩
  obtain ⟨x1, hx1⟩ : ∃ x, cmpL q.lo.l hi.l = x := ⟨_, rfl⟩
  obtain ⟨x2, hx2⟩ : ∃ x, cmpL q.hi.l lo.l = x := ⟨_, rfl⟩
  have HC1 : Hid (Calls Try.prog 75 #[.slice q.lo.a qn q.lo.c, .slice hi.a hn hi.c] w0 fun e w' => e = .returned (.int .i64 x1) ∧ w' = w0) := Lib.hid (by
    rw [← hqn, ← hhn, ← hx1]
    exact compare_any _ _ _ _ _ _ _ _ _ HQ.out.1 HHI.out)
  have HC2 : Hid (Calls Try.prog 75 #[.slice q.hi.a qm q.hi.c, .slice lo.a ln lo.c] w0 fun e w' => e = .returned (.int .i64 x2) ∧ w' = w0) := Lib.hid (by
    rw [← hqm, ← hln, ← hx2]
    exact compare_any _ _ _ _ _ _ _ _ _ HQ.out.2 HLO.out)
  rw [hx1] at hb1
  rw [hx2] at hb2
  rw [hln] at a1
  rw [hhn] at a0
  obtain ⟨c0, c1, c2, c3, c4⟩ := box_five (W := w0) (g := w.heap.size) (v0 := .int .i64 q.i) (v1 := .int .i64 q.v) (v2 := .int .i64 q.n) (v3 := .slice q.lo.a qn q.lo.c) (v4 := .slice q.hi.a qm q.hi.c) (t := 108) (fr := (0, 0)) (by rw [← hw0, ← hqn, ← hqm]; exact heap_alloc_new w _)
  unfold Ta.val
  rw [HB.out]
  rw [hqn, hqm] at hw0
  rw [hqn, hqm]
  clear hv hl hh hq hx1 hx2 hln hhn hqn hqm
  go_enter Try.func91, Try.ntmps91
  go_upto_region 1 with fail
  try rw [hw0]
  clear hw0
  cases b1
  · go_wp2_with (first
      | (go_at_call 75; refine HC1.out.mono ?_; rintro e w' ⟨rfl, rfl⟩)
      | (go_at_call 75; refine HC2.out.mono ?_; rintro e w' ⟨rfl, rfl⟩))
    go_ret
    exact ⟨rfl, B0.out⟩
  · go_wp2_with (first
      | (go_at_call 75; refine HC1.out.mono ?_; rintro e w' ⟨rfl, rfl⟩)
      | (go_at_call 75; refine HC2.out.mono ?_; rintro e w' ⟨rfl, rfl⟩))
    go_ret
    exact ⟨by rw [← hb2]; rfl, B0.out⟩
end Go.Proofs.Ytcffpkflijpdjaa
namespace Go.Proofs.Ytcffpkflijpdjaa
open Go.RowKit
theorem cells_new (w : World) (v : Value) (t : TypeId) : ∀ W, Below (w.alloc (.cells #[v] t)).heap.size (w.alloc (.cells #[v] t)) W → W.cell? ⟨w.heap.size, 0, none⟩ = some v := fun W hb => by
  have e := (hb.block w.heap.size (by simp)).trans (heap_alloc_new w _)
  simp [World.cell?, e]
theorem Chos.from {p : Ta → Bool} {l : List Ta} {w0 w : World} {e : Ending} {w' : World} (h : Chos p l w e w') (hb : Below w0.heap.size w0 w) : Chos p l w0 e w' := by
  obtain ⟨A', m, c', h1, h2, h3, h4⟩ := h
  exact ⟨A', m, c', h1, h2, h3.mono hb.size, below_then hb h4⟩
set_option maxRecDepth 100000 in
set_option maxHeartbeats 4000000 in
theorem tablesAt_any (A : Option Addr) (l : List Ta) (n c : Nat) (v : Int) (w : World) (hn : l.length = n) (h : Lies w A (qvals l)) (hl : n * 72 ≤ 140737488351232) :
    Calls Try.prog 67 #[.slice A n c, .int .i64 v] w (Chos (atB v) l w) := by
  obtain ⟨w0, hw0⟩ : ∃ w0, w.alloc (.cells #[.int .i64 v] 3) = w0 := ⟨_, rfl⟩
  have B0 : Hid (Below w.heap.size w w0) := Lib.hid (hw0 ▸ below_new w _)
  have HC : Hid (Calls Try.prog 70 #[.slice A n c, .func (.func 89) #[] #[.pointer (some ⟨w.heap.size, 0, none⟩)]] w0 (Chos (atB v) l w)) := Lib.hid ((chosenL_any ⟨w.heap.size, 0, none⟩ (atB v) A l n c w0 hn (h.kept B0.out) hl (fun W hb q _ => levelC_any q v w.heap.size W (fun W' hb' => cells_new w (.int .i64 v) 3 W' (by rw [hw0]; exact below_then hb hb')))).mono fun e w' hc => hc.from B0.out)
  clear h hn
  go_enter Try.func67, Try.ntmps67
  go_upto_region 1 with fail
  try rw [hw0]
  clear hw0
  go_wp2_with (go_at_call 70; refine HC.out.mono ?_; rintro e w1 ⟨A1, m1, c1, rfl, h1⟩; have H1 := Lib.hid h1; clear h1)
  go_ret
  exact ⟨A1, m1, c1, rfl, H1.out⟩
set_option maxRecDepth 100000 in
set_option maxHeartbeats 4000000 in
theorem byID_any (p q : Ta) (w : World) : Calls Try.prog 69 #[p.val, q.val] w fun e w' => e = .returned (.int .i64 (cmpI p.i q.i)) ∧ Below w.heap.size w w' := by
  obtain ⟨x, hx⟩ : ∃ x, cmpI p.i q.i = x := ⟨_, rfl⟩
  have HC : Hid (∀ W, Calls Try.prog 76 #[.int .i64 p.i, .int .i64 q.i] W fun e w' => e = .returned (.int .i64 x) ∧ w' = W) := Lib.hid (fun W => hx ▸ compareI_any p.i q.i W)
  rw [hx]
  clear hx
  obtain ⟨w1, hw1⟩ : ∃ w1, ((w.alloc (.cells #[.int .i64 p.i, .int .i64 p.v, .int .i64 p.n, .slice p.lo.a p.lo.l.length p.lo.c, .slice p.hi.a p.hi.l.length p.hi.c] 108)).alloc (.cells #[.int .i64 q.i, .int .i64 q.v, .int .i64 q.n, .slice q.lo.a q.lo.l.length q.lo.c, .slice q.hi.a q.hi.l.length q.hi.c] 108)) = w1 := ⟨_, rfl⟩
  have B1 : Hid (Below w.heap.size w w1) := Lib.hid (hw1 ▸ (below_new w _).alloc (by simp) _)
  have a0 : w1.cell? ⟨w.heap.size, 0, none⟩ = some (.int .i64 p.i) := by
    have e := (RowKit.Below.heap_alloc (w.alloc (.cells #[.int .i64 p.i, .int .i64 p.v, .int .i64 p.n, .slice p.lo.a p.lo.l.length p.lo.c, .slice p.hi.a p.hi.l.length p.hi.c] 108)) (.cells #[.int .i64 q.i, .int .i64 q.v, .int .i64 q.n, .slice q.lo.a q.lo.l.length q.lo.c, .slice q.hi.a q.hi.l.length q.hi.c] 108) w.heap.size (by simp)).trans (heap_alloc_new w _)
    rw [hw1] at e
    simp [World.cell?, e]
  have a1 : w1.cell? ⟨w.heap.size + 1, 0, none⟩ = some (.int .i64 q.i) := by
    have e := heap_alloc_new (w.alloc (.cells #[.int .i64 p.i, .int .i64 p.v, .int .i64 p.n, .slice p.lo.a p.lo.l.length p.lo.c, .slice p.hi.a p.hi.l.length p.hi.c] 108)) (.cells #[.int .i64 q.i, .int .i64 q.v, .int .i64 q.n, .slice q.lo.a q.lo.l.length q.lo.c, .slice q.hi.a q.hi.l.length q.hi.c] 108)
    rw [hw1, World.size_alloc] at e
    simp [World.cell?, e]
  unfold Ta.val
  go_enter Try.func69, Try.ntmps69
  go_upto_region 1 with fail
  try rw [hw1]
  clear hw1
  go_wp2_with (go_at_call 76; refine (HC.out _).mono ?_; rintro e w' ⟨rfl, rfl⟩)
  go_ret
  exact ⟨rfl, B1.out⟩
end Go.Proofs.Ytcffpkflijpdjaa
namespace Go.Proofs.Ytcffpkflijpdjaa
open Go.RowKit
theorem set_five {W : World} {z : Nat} {a b c d i e f g h j : Value} {t : TypeId} (hz : W.heap[z]? = some (.cells #[a, b, c, d, i] t (0, 0))) : (((((W.setCell ⟨z, 0, none⟩ e).setCell ⟨z, 1, none⟩ f).setCell ⟨z, 2, none⟩ g).setCell ⟨z, 3, none⟩ h).setCell ⟨z, 4, none⟩ j).heap[z]? = some (.cells #[e, f, g, h, j] t (0, 0)) := by
  have h1 := heap_setCell_same W z 0 _ t e hz
  have h2 := heap_setCell_same _ z 1 _ t f h1
  have h3 := heap_setCell_same _ z 2 _ t g h2
  have h4 := heap_setCell_same _ z 3 _ t h h3
  exact heap_setCell_same _ z 4 _ t j h4
theorem set_five_kp {S : Nat → Prop} {w W : World} (hk : Kp S w W) (z : Nat) (e f g h j : Value) (hz : ¬ S z) : Kp S w (((((W.setCell ⟨z, 0, none⟩ e).setCell ⟨z, 1, none⟩ f).setCell ⟨z, 2, none⟩ g).setCell ⟨z, 3, none⟩ h).setCell ⟨z, 4, none⟩ j) :=
  ((((hk.set z 0 e hz).set z 1 f hz).set z 2 g hz).set z 3 h hz).set z 4 j hz
/-- A table's five cells in a block of its own. -/
def TBox (W : World) (g : Nat) (q : Ta) : Prop := W.heap[g]? = some (.cells #[.int .i64 q.i, .int .i64 q.v, .int .i64 q.n, .slice q.lo.a q.lo.l.length q.lo.c, .slice q.hi.a q.hi.l.length q.hi.c] 108 (0, 0))
theorem TBox.kept {W W' : World} {g : Nat} {q : Ta} (h : TBox W g q) (hb : Below W.heap.size W W') : TBox W' g q := (hb.block g (Array.getElem?_eq_some_iff.1 h).1).trans h
theorem TBox.at_ {W : World} {g : Nat} {q : Ta} (h : TBox W g q) : AtT W ⟨g, 0, none⟩ q := by
  obtain ⟨h0, h1, h2, h3, h4⟩ := box_five h
  exact ⟨h0, h1, h2, h3, h4⟩
theorem tbox_new (w : World) (q : Ta) : TBox (w.alloc (.cells #[.int .i64 q.i, .int .i64 q.v, .int .i64 q.n, .slice q.lo.a q.lo.l.length q.lo.c, .slice q.hi.a q.hi.l.length q.hi.c] 108)) w.heap.size q := heap_alloc_new w _
def taZ : Ta := ⟨0, 0, 0, ⟨none, 0, []⟩, ⟨none, 0, []⟩⟩
theorem froz (W : World) (g i : Nat) (cs : Array Value) (t : TypeId) (h : W.heap[g]? = some (.cells cs t (0, 0))) : W.frozen? ⟨g, i, none⟩ = false := by simp [World.frozen?, h]
set_option maxRecDepth 100000 in
set_option maxHeartbeats 8000000 in
theorem minFunc_any (A : Option Addr) (l : List Ta) (n c : Nat) (w : World) (hn : l.length = n) (h : Lies w A (qvals l)) (hl : n * 72 ≤ 140737488351232) (n0 : 0 < n) :
    Calls Try.prog 68 #[.slice A n c, .func (.func 69) #[] #[]] w fun e w' => ∃ q ∈ l, e = .returned q.val ∧ Below w.heap.size w w' := by
  have HP := Lib.hid (fun (w' : World) (hb : Below w.heap.size w w') => h.kept hb)
  have HN := Lib.hid hn
  have hl9 := hl
  have hq := List.getElem?_eq_getElem (l := l) (i := 0) (by omega)
  generalize l[0]'(by omega) = x at hq
  obtain ⟨w0, hw0⟩ : ∃ w0, w.alloc (.cells #[.int .i64 0, .int .i64 0, .int .i64 0, .slice none 0 0, .slice none 0 0] 108) = w0 := ⟨_, rfl⟩
  have B0 : Hid (Below w.heap.size w w0) := Lib.hid (hw0 ▸ below_new w _)
  have Z0 : Hid (TBox w0 w.heap.size taZ) := Lib.hid (hw0 ▸ tbox_new w taZ)
  have S0 : w0.heap.size = w.heap.size + 1 := by rw [← hw0]; simp
  obtain ⟨ad, rfl, a0, a1, a2, a3, a4⟩ := lies_table (HP.out _ B0.out) hq
  have e0 : ad.add (0 * 5) = ad := by cases ad; simp [Addr.add]
  rw [e0] at a0 a1 a2 a3 a4
  have n1 : (0 : Int) < n := by omega
  have d1 : decide ((n : Int) < 1) = false := decide_eq_false (by omega)
  obtain ⟨w1, hw1⟩ : ∃ w1, w0.alloc (.cells #[.int .i64 x.i, .int .i64 x.v, .int .i64 x.n, .slice x.lo.a x.lo.l.length x.lo.c, .slice x.hi.a x.hi.l.length x.hi.c] 108) = w1 := ⟨_, rfl⟩
  have B1 : Hid (Below w.heap.size w w1) := Lib.hid (hw1 ▸ B0.out.alloc B0.out.size _)
  have M1 : Hid (TBox w1 w.heap.size taZ ∧ TBox w1 (w.heap.size + 1) x ∧ x ∈ l) := Lib.hid (by
    refine ⟨hw1 ▸ Z0.out.kept (below_new _ _), ?_, List.mem_of_getElem? hq⟩
    have := tbox_new w0 x
    rwa [S0, hw1] at this)
  clear h hn hq
  go_enter Try.func68, Try.ntmps68
  go_upto_region 4 with fail
  try rw [hw0]
  rw [S0] at *
  try rw [hw1]
  clear hw0 hw1 a0 a1 a2 a3 a4 S0
  go_wp2_with fail
  go_loopw [6] (fun t6 wr => ∃ (k : Nat) (q : Ta), 1 ≤ k ∧ k ≤ n ∧ t6 = .int .i64 k ∧ Hid (TBox wr w.heap.size taZ ∧ TBox wr (w.heap.size + 1) q ∧ q ∈ l) ∧ Hid (Below w.heap.size w wr)) (fun t6 _ => n - (intOf t6).toNat)
  case atStart => exact ⟨1, x, by omega, by omega, rfl, M1, B1⟩
  case round =>
    obtain ⟨k, q, hk1, hk, rfl, hm, b2⟩ := hrel
    by_cases hlt : k < n
    · have hx := List.getElem?_eq_getElem (l := l) (i := k) (by have := HN.out; omega)
      generalize l[k]'(by have := HN.out; omega) = y at hx
      have HMY := Lib.hid (List.mem_of_getElem? hx)
      have k0 : (k : Int) < n := by omega
      obtain ⟨d, hd⟩ : ∃ d, decide (cmpI y.i q.i < 0) = d := ⟨_, rfl⟩
      obtain ⟨cv, hcv⟩ : ∃ cv, cmpI y.i q.i = cv := ⟨_, rfl⟩
      rw [hcv] at hd
      obtain ⟨yn, hyn⟩ : ∃ m, y.lo.l.length = m := ⟨_, rfl⟩
      obtain ⟨ym, hym⟩ : ∃ m, y.hi.l.length = m := ⟨_, rfl⟩
      obtain ⟨qn, hqn⟩ : ∃ m, q.lo.l.length = m := ⟨_, rfl⟩
      obtain ⟨qm, hqm⟩ : ∃ m, q.hi.l.length = m := ⟨_, rfl⟩
      have HY := Lib.hid (And.intro hyn hym)
      have HBY : Hid (∀ W, Calls Try.prog 69 #[.agg #[.int .i64 y.i, .int .i64 y.v, .int .i64 y.n, .slice y.lo.a yn y.lo.c, .slice y.hi.a ym y.hi.c], .agg #[.int .i64 q.i, .int .i64 q.v, .int .i64 q.n, .slice q.lo.a qn q.lo.c, .slice q.hi.a qm q.hi.c]] W fun e w' => e = .returned (.int .i64 cv) ∧ Below W.heap.size W w') := Lib.hid (fun W => by
        have := byID_any y q W
        unfold Ta.val at this
        rwa [hyn, hym, hqn, hqm, hcv] at this)
      have HC1 : Hid (∀ W, Below wr.heap.size wr W → (W.cell? (ad.add (k * 5)) = some (.int .i64 y.i) ∧ W.cell? ⟨(ad.add (k * 5)).block, (ad.add (k * 5)).off + 1, none⟩ = some (.int .i64 y.v) ∧ W.cell? ⟨(ad.add (k * 5)).block, (ad.add (k * 5)).off + 2, none⟩ = some (.int .i64 y.n) ∧ W.cell? ⟨(ad.add (k * 5)).block, (ad.add (k * 5)).off + 3, none⟩ = some (.slice y.lo.a yn y.lo.c) ∧ W.cell? ⟨(ad.add (k * 5)).block, (ad.add (k * 5)).off + 4, none⟩ = some (.slice y.hi.a ym y.hi.c)) ∧ (W.cell? ⟨w.heap.size + 1, 0, none⟩ = some (.int .i64 q.i) ∧ W.cell? ⟨w.heap.size + 1, 1, none⟩ = some (.int .i64 q.v) ∧ W.cell? ⟨w.heap.size + 1, 2, none⟩ = some (.int .i64 q.n) ∧ W.cell? ⟨w.heap.size + 1, 3, none⟩ = some (.slice q.lo.a qn q.lo.c) ∧ W.cell? ⟨w.heap.size + 1, 4, none⟩ = some (.slice q.hi.a qm q.hi.c))) := Lib.hid (fun W hb => by
        have h1 := lies_table_at (HP.out W (below_then b2.out hb)) hx
        have h2 := (hm.out.2.1.kept hb).at_
        unfold AtT at h1 h2
        rw [hyn, hym] at h1
        rw [hqn, hqm] at h2
        obtain ⟨g0, g1, g2, g3, g4⟩ := h2
        exact ⟨h1, g0, g1, g2, g3, g4⟩)
      have BB := Lib.hid (Below.refl wr.heap.size wr)
      have HM := Lib.hid hm.out
      have HB2 := Lib.hid b2.out
      clear hx hyn hym hqn hqm hcv
      go_upto_region 7 with fail
      go_region_held3 (fun W => (W.cell? (ad.add (k * 5)) = some (.int .i64 y.i) ∧ W.cell? ⟨(ad.add (k * 5)).block, (ad.add (k * 5)).off + 1, none⟩ = some (.int .i64 y.v) ∧ W.cell? ⟨(ad.add (k * 5)).block, (ad.add (k * 5)).off + 2, none⟩ = some (.int .i64 y.n) ∧ W.cell? ⟨(ad.add (k * 5)).block, (ad.add (k * 5)).off + 3, none⟩ = some (.slice y.lo.a yn y.lo.c) ∧ W.cell? ⟨(ad.add (k * 5)).block, (ad.add (k * 5)).off + 4, none⟩ = some (.slice y.hi.a ym y.hi.c)) ∧ (W.cell? ⟨w.heap.size + 1, 0, none⟩ = some (.int .i64 q.i) ∧ W.cell? ⟨w.heap.size + 1, 1, none⟩ = some (.int .i64 q.v) ∧ W.cell? ⟨w.heap.size + 1, 2, none⟩ = some (.int .i64 q.n) ∧ W.cell? ⟨w.heap.size + 1, 3, none⟩ = some (.slice q.lo.a qn q.lo.c) ∧ W.cell? ⟨w.heap.size + 1, 4, none⟩ = some (.slice q.hi.a qm q.hi.c))) (first | exact HC1.out _ BB.out | exact HC1.out _ BB.out.drew | go_keep) (first
        | (go_at_call 69; refine (HBY.out _).mono ?_; rintro e w7 ⟨rfl, hz⟩; have BB : Hid (Below wr.heap.size wr w7) := Lib.hid (below_then (by first | exact BB.out | exact BB.out.drew) hz); clear hz))
      all_goals
        have M7 : Hid (TBox w7 w.heap.size taZ ∧ TBox w7 (w.heap.size + 1) q) := Lib.hid ⟨HM.out.1.kept BB.out, HM.out.2.1.kept BB.out⟩
        have B7 : Hid (Below w.heap.size w w7) := Lib.hid (below_then HB2.out BB.out)
        obtain ⟨⟨a0, a1, a2, a3, a4⟩, c0, c1, c2', c3, c4⟩ := HC1.out w7 BB.out
        have f0 := froz w7 (w.heap.size + 1) 0 _ _ M7.out.2
        have f1 := froz w7 (w.heap.size + 1) 1 _ _ M7.out.2
        have f2 := froz w7 (w.heap.size + 1) 2 _ _ M7.out.2
        have f3 := froz w7 (w.heap.size + 1) 3 _ _ M7.out.2
        have f4 := froz w7 (w.heap.size + 1) 4 _ _ M7.out.2
        cases d
        · go_wp2_with fail
          go_roundw
          case rel => exact ⟨k + 1, q, by omega, by omega, by go_num, Lib.hid ⟨M7.out.1, M7.out.2, HM.out.2.2⟩, B7⟩
          case measure => simp [intOf]; omega
        · go_upto_region 6 with fail
          have H5 := Lib.hid (set_five (e := .int .i64 y.i) (f := .int .i64 y.v) (g := .int .i64 y.n) (h := .slice y.lo.a yn y.lo.c) (j := .slice y.hi.a ym y.hi.c) M7.out.2)
          have K5 := Lib.hid (set_five_kp (Kp.refl (fun j => j ≠ w.heap.size + 1) w7) (w.heap.size + 1) (.int .i64 y.i) (.int .i64 y.v) (.int .i64 y.n) (.slice y.lo.a yn y.lo.c) (.slice y.hi.a ym y.hi.c) (by simp))
          have B5 := Lib.hid ((set_five_kp (Kp.of_below B7.out) (w.heap.size + 1) (.int .i64 y.i) (.int .i64 y.v) (.int .i64 y.n) (.slice y.lo.a yn y.lo.c) (.slice y.hi.a ym y.hi.c) (by omega)).below (fun _ hk => hk))
          clear a0 a1 a2 a3 a4 c0 c1 c2' c3 c4 f0 f1 f2 f3 f4
          generalize (((((w7.setCell ⟨w.heap.size + 1, 0, none⟩ (.int .i64 y.i)).setCell ⟨w.heap.size + 1, 1, none⟩ (.int .i64 y.v)).setCell ⟨w.heap.size + 1, 2, none⟩ (.int .i64 y.n)).setCell ⟨w.heap.size + 1, 3, none⟩ (.slice y.lo.a yn y.lo.c)).setCell ⟨w.heap.size + 1, 4, none⟩ (.slice y.hi.a ym y.hi.c)) = w5 at H5 K5 B5 ⊢
          have M5 : Hid (TBox w5 w.heap.size taZ ∧ TBox w5 (w.heap.size + 1) y ∧ y ∈ l) := Lib.hid ⟨(K5.out.block w.heap.size (by omega)).trans M7.out.1, by unfold TBox; rw [HY.out.1, HY.out.2]; exact H5.out, HMY.out⟩
          go_wp2_with fail
          go_roundw
          case rel => exact ⟨k + 1, y, by omega, by omega, by go_num, M5, B5⟩
          case measure => simp [intOf]; omega
    · obtain rfl : k = n := by omega
      have k0 : ¬ (k : Int) < k := by omega
      obtain ⟨qn, hqn⟩ : ∃ m, q.lo.l.length = m := ⟨_, rfl⟩
      obtain ⟨qm, hqm⟩ : ∃ m, q.hi.l.length = m := ⟨_, rfl⟩
      have HQ := Lib.hid (And.intro hqn hqm)
      obtain ⟨c0, c1, c2', c3, c4⟩ := hm.out.2.1.at_
      obtain ⟨x0, x1, x2, x3, x4⟩ := hm.out.1.at_
      simp only [taZ, List.length_nil, Nat.zero_add] at x0 x1 x2 x3 x4
      simp only [Nat.zero_add] at c1 c2' c3 c4
      rw [hqn] at c3
      rw [hqm] at c4
      have f0 := froz wr w.heap.size 0 _ _ hm.out.1
      have f1 := froz wr w.heap.size 1 _ _ hm.out.1
      have f2 := froz wr w.heap.size 2 _ _ hm.out.1
      have f3 := froz wr w.heap.size 3 _ _ hm.out.1
      have f4 := froz wr w.heap.size 4 _ _ hm.out.1
      clear hqn hqm
      go_wp2_with fail
      have H5 := Lib.hid (set_five (e := .int .i64 q.i) (f := .int .i64 q.v) (g := .int .i64 q.n) (h := .slice q.lo.a qn q.lo.c) (j := .slice q.hi.a qm q.hi.c) hm.out.1)
      have B5 := Lib.hid ((set_five_kp (Kp.of_below b2.out) (w.heap.size) (.int .i64 q.i) (.int .i64 q.v) (.int .i64 q.n) (.slice q.lo.a qn q.lo.c) (.slice q.hi.a qm q.hi.c) (by omega)).below (fun _ hk => hk))
      clear c0 c1 c2' c3 c4 x0 x1 x2 x3 x4 f0 f1 f2 f3 f4
      generalize (((((wr.setCell ⟨w.heap.size, 0, none⟩ (.int .i64 q.i)).setCell ⟨w.heap.size, 1, none⟩ (.int .i64 q.v)).setCell ⟨w.heap.size, 2, none⟩ (.int .i64 q.n)).setCell ⟨w.heap.size, 3, none⟩ (.slice q.lo.a qn q.lo.c)).setCell ⟨w.heap.size, 4, none⟩ (.slice q.hi.a qm q.hi.c)) = w5 at H5 B5 ⊢
      try simp only [Exit.inBlock, Exit.then]
      refine bodyPost_ret (results_cell_row rfl _ _ w.heap.size 108 #[.int .i64 q.i, .int .i64 q.v, .int .i64 q.n, .slice q.lo.a qn q.lo.c, .slice q.hi.a qm q.hi.c] (0, 0) _ rfl H5.out Try.underlying108 rfl (by kernel_rfl)) rfl ?_
      exact ⟨q, hm.out.2.2, by unfold Ta.val; rw [HQ.out.1, HQ.out.2], B5.out⟩
end Go.Proofs.Ytcffpkflijpdjaa
namespace Go.Proofs.Ytcffpkflijpdjaa
open Go.RowKit
def loP : List Ta → List Int
  | [] => []
  | t :: r => r.foldl (fun m q => if decide (cmpL q.lo.l m < 0) = true then q.lo.l else m) t.lo.l
def hiP : List Ta → List Int
  | [] => []
  | t :: r => r.foldl (fun m q => if decide (cmpL q.hi.l m > 0) = true then q.hi.l else m) t.hi.l
theorem take_tail {l : List Ta} {k : Nat} {y : Ta} (h : l[k + 1]? = some y) : ∃ t r, l = t :: r ∧ l.take (k + 1) = t :: r.take k ∧ l.take (k + 2) = t :: (r.take k ++ [y]) := by
  cases l with
  | nil => simp at h
  | cons t r =>
    refine ⟨t, r, rfl, rfl, ?_⟩
    rw [List.take_succ_cons, List.take_add_one, show r[k]? = some y by simpa using h]
    rfl
theorem loP_step {l : List Ta} {k : Nat} {y : Ta} (h : l[k + 1]? = some y) : loP (l.take (k + 2)) = if decide (cmpL y.lo.l (loP (l.take (k + 1))) < 0) = true then y.lo.l else loP (l.take (k + 1)) := by
  obtain ⟨t, r, -, h1, h2⟩ := take_tail h
  rw [h1, h2]
  simp only [loP, List.foldl_append, List.foldl_cons, List.foldl_nil]
  rfl
theorem hiP_step {l : List Ta} {k : Nat} {y : Ta} (h : l[k + 1]? = some y) : hiP (l.take (k + 2)) = if decide (cmpL y.hi.l (hiP (l.take (k + 1))) > 0) = true then y.hi.l else hiP (l.take (k + 1)) := by
  obtain ⟨t, r, -, h1, h2⟩ := take_tail h
  rw [h1, h2]
  simp only [hiP, List.foldl_append, List.foldl_cons, List.foldl_nil]
  rfl
/-- Where the least and the greatest are kept. -/
structure Endz (w0 W : World) (gl gh : Nat) (lo hi : Sl) : Prop where
  ne : gl ≠ gh
  lb : w0.heap.size ≤ gl
  hb : w0.heap.size ≤ gh
  ol : W.heap[gl]? = some (.cells #[.slice lo.a lo.l.length lo.c] 23 (0, 0))
  oh : W.heap[gh]? = some (.cells #[.slice hi.a hi.l.length hi.c] 23 (0, 0))
  bel : Below w0.heap.size w0 W
  lin : In w0 lo.a lo.l lo.l.length lo.c
  hin : In w0 hi.a hi.l hi.l.length hi.c
theorem Endz.kept {w0 W W' : World} {gl gh : Nat} {lo hi : Sl} (h : Endz w0 W gl gh lo hi) (hb : Below W.heap.size W W') : Endz w0 W' gl gh lo hi :=
  ⟨h.ne, h.lb, h.hb, (hb.block gl (Array.getElem?_eq_some_iff.1 h.ol).1).trans h.ol, (hb.block gh (Array.getElem?_eq_some_iff.1 h.oh).1).trans h.oh, below_then h.bel hb, h.lin, h.hin⟩
theorem Endz.cells {w0 W : World} {gl gh : Nat} {lo hi : Sl} (h : Endz w0 W gl gh lo hi) : (W.cell? ⟨gl, 0, none⟩ = some (.slice lo.a lo.l.length lo.c) ∧ W.cell? ⟨gh, 0, none⟩ = some (.slice hi.a hi.l.length hi.c)) ∧ W.frozen? ⟨gl, 0, none⟩ = false ∧ W.frozen? ⟨gh, 0, none⟩ = false := by
  have h1 := h.ol
  have h2 := h.oh
  refine ⟨⟨?_, ?_⟩, ?_, ?_⟩ <;> simp [World.cell?, World.frozen?, h1, h2]
theorem Endz.setLo {w0 W : World} {gl gh : Nat} {lo hi : Sl} (h : Endz w0 W gl gh lo hi) (x : Sl) (hx : In w0 x.a x.l x.l.length x.c) : Endz w0 (W.setCell ⟨gl, 0, none⟩ (.slice x.a x.l.length x.c)) gl gh x hi :=
  ⟨h.ne, h.lb, h.hb, heap_setCell_same W gl 0 _ _ _ h.ol, (Below.heap_setCell W ⟨gl, 0, none⟩ _ gh (fun e => h.ne e.symm)).trans h.oh, ((Kp.of_below h.bel).set gl 0 _ (by have := h.lb; omega)).below (fun _ hk => hk), hx, h.hin⟩
theorem Endz.setHi {w0 W : World} {gl gh : Nat} {lo hi : Sl} (h : Endz w0 W gl gh lo hi) (x : Sl) (hx : In w0 x.a x.l x.l.length x.c) : Endz w0 (W.setCell ⟨gh, 0, none⟩ (.slice x.a x.l.length x.c)) gl gh lo x :=
  ⟨h.ne, h.lb, h.hb, (Below.heap_setCell W ⟨gh, 0, none⟩ _ gl (fun e => h.ne e)).trans h.ol, heap_setCell_same W gh 0 _ _ _ h.oh, ((Kp.of_below h.bel).set gh 0 _ (by have := h.hb; omega)).below (fun _ hk => hk), h.lin, hx⟩
theorem sizeTa' (W : World) : (sizeOf (Try.prog.elem 80)).run Try.prog W = .ok 5 W := by
  have : Try.prog.elem 80 = 108 := by kernel_rfl
  rw [this]
  exact Try.sizeOf108 W
theorem underTa' : Try.prog.underlying 80 = some (.slice (Try.prog.elem 80)) := by kernel_rfl
theorem slice_tailT (A : Option Addr) (n c : Nat) (h1 : 1 ≤ n) (hc : n ≤ c) : ∀ W, (Instr.slice 80 (.slice A n c) (some (.int .i64 1)) none none).run Try.prog W = .ok (.slice (if c = 1 then A else A.map (·.add (1 * 5))) (n - 1) (c - 1)) W := fun W => by
  rw [run_slice_l (P := Try.prog) W _ A n c underTa' .i64 1 (by omega) (by omega), sizeTa']
  simp [Result.andThen, sliced]
theorem lies_tailT {w : World} {A : Option Addr} {l : List Ta} (h : Lies w A (qvals l)) (c : Nat) (hc : l.length ≤ c) : Lies w (if c = 1 then A else A.map (·.add (1 * 5))) (qvals (l.drop 1)) := by
  cases l with
  | nil => exact .inl rfl
  | cons t r =>
    cases r with
    | nil => exact .inl rfl
    | cons u r =>
      rw [if_neg (by simp at hc; omega)]
      rcases h with h | ⟨ad, rfl, h⟩
      · have := congrArg List.length h
        rw [qvals_len] at this
        simp at this
      · refine .inr ⟨_, rfl, fun j v hv => ?_⟩
        rw [add_add]
        have e : qvals (t :: u :: r) = t.cells ++ qvals (u :: r) := rfl
        refine h _ _ ?_
        rw [e, List.getElem?_append_right (by simp [Ta.cells])]
        have e5 : t.cells.length = 5 := rfl
        rw [e5, show 1 * 5 + j - 5 = j by omega]
        exact hv
/-- What is answered: a closure that tells whether a table overlaps these. -/
def OvOut (l : List Ta) (w : World) (e : Ending) (w' : World) : Prop := ∃ (gh gl : Nat) (lo hi : Sl), e = .returned (.func (.func 91) #[] #[.pointer (some ⟨gh, 0, none⟩), .pointer (some ⟨gl, 0, none⟩)]) ∧ Endz w w' gl gh lo hi ∧ lo.l = loP l ∧ hi.l = hiP l
set_option maxRecDepth 100000 in
set_option maxHeartbeats 8000000 in
theorem overlapping_any (A : Option Addr) (l : List Ta) (n c : Nat) (w : World) (hn : l.length = n) (h : Lies w A (qvals l)) (hi : TIns w l) (hc : n ≤ c) (hl : n * 72 ≤ 140737488351232) (n0 : 0 < n) :
    Calls Try.prog 71 #[.slice A n c] w (OvOut l w) := by
  have HP := Lib.hid (fun (w' : World) (hb : Below w.heap.size w w') => h.kept hb)
  have HTL := Lib.hid (fun (w' : World) (hb : Below w.heap.size w w') => (lies_tailT h c (by rw [hn]; exact hc)).kept hb)
  have HI := Lib.hid hi
  have HN := Lib.hid hn
  have hl9 := hl
  have hq := List.getElem?_eq_getElem (l := l) (i := 0) (by omega)
  generalize l[0]'(by omega) = x at hq
  obtain ⟨ad, rfl, a0, a1, a2, a3, a4⟩ := lies_table h hq
  have e0 : ad.add (0 * 5) = ad := by cases ad; simp [Addr.add]
  rw [e0] at a0 a1 a2 a3 a4
  have n1 : (0 : Int) < n := by omega
  have nz : ((n : Int) == 0) = false := beq_eq_false_iff_ne.2 (by omega)
  have s1 := slice_tailT (some ad) n c (by omega) hc
  obtain ⟨A5, hA5⟩ : ∃ A5, (if c = 1 then some ad else (some ad : Option Addr).map (·.add (1 * 5))) = A5 := ⟨_, rfl⟩
  rw [hA5] at HTL s1
  obtain ⟨m, rfl⟩ : ∃ m, n = m + 1 := ⟨n - 1, by omega⟩
  rw [Nat.add_sub_cancel] at s1
  obtain ⟨xn, hxn⟩ : ∃ m, x.lo.l.length = m := ⟨_, rfl⟩
  obtain ⟨xm, hxm⟩ : ∃ m, x.hi.l.length = m := ⟨_, rfl⟩
  rw [hxn] at a3
  rw [hxm] at a4
  have HXN := Lib.hid (And.intro hxn hxm)
  have IX := Lib.hid (hi x (List.mem_of_getElem? hq))
  have HT1 : Hid (loP (l.take 1) = x.lo.l ∧ hiP (l.take 1) = x.hi.l) := Lib.hid (by
    cases l with
    | nil => cases hq
    | cons t r => simp at hq; subst hq; exact ⟨rfl, rfl⟩)
  clear h hn hq hi hA5 hxn hxm e0
  go_enter Try.func71, Try.ntmps71
  go_upto_region 3 with fail
  go_cut [3, 4] from 9 to 17 (fun t3 t4 wx => ∃ gl gh, t3 = .pointer (some ⟨gl, 0, none⟩) ∧ t4 = .pointer (some ⟨gh, 0, none⟩) ∧ Hid (Endz w wx gl gh x.lo x.hi))
  case first =>
    have HAD : Hid (ad.block < w.heap.size) := Lib.hid (by
      unfold World.cell? at a0
      cases hh : w.heap[ad.block]? with
      | none => rw [hh] at a0; cases a0
      | some o => exact (Array.getElem?_eq_some_iff.1 hh).1)
    have hd0 : ad.block ≠ w.heap.size := by have := HAD.out; omega
    have hd1 : ad.block ≠ w.heap.size + 1 := by have := HAD.out; omega
    have HC : Hid (∀ W, Below w.heap.size w W → W.cell? ⟨ad.block, ad.off + 3, none⟩ = some (.slice x.lo.a xn x.lo.c) ∧ W.cell? ⟨ad.block, ad.off + 4, none⟩ = some (.slice x.hi.a xm x.hi.c)) := Lib.hid (fun W hb => ⟨(Below.cell (p := ⟨ad.block, ad.off + 3, none⟩) hb HAD.out).trans a3, (Below.cell (p := ⟨ad.block, ad.off + 4, none⟩) hb HAD.out).trans a4⟩)
    have E12 : Hid (Endz w ((w.alloc (.cells #[.slice x.lo.a xn x.lo.c] 23)).alloc (.cells #[.slice x.hi.a xm x.hi.c] 23)) w.heap.size (w.heap.size + 1) x.lo x.hi) := Lib.hid (by
      have h2 := heap_alloc_new (w.alloc (.cells #[.slice x.lo.a xn x.lo.c] 23)) (.cells #[.slice x.hi.a xm x.hi.c] 23)
      rw [World.size_alloc] at h2
      exact ⟨by omega, Nat.le_refl _, by omega, by rw [HXN.out.1]; exact (RowKit.Below.heap_alloc _ _ _ (by simp)).trans (heap_alloc_new w _), by rw [HXN.out.2]; exact h2, (below_new _ _).alloc (by simp) _, IX.out.1, IX.out.2⟩)
    have E21 : Hid (Endz w ((w.alloc (.cells #[.slice x.hi.a xm x.hi.c] 23)).alloc (.cells #[.slice x.lo.a xn x.lo.c] 23)) (w.heap.size + 1) w.heap.size x.lo x.hi) := Lib.hid (by
      have h2 := heap_alloc_new (w.alloc (.cells #[.slice x.hi.a xm x.hi.c] 23)) (.cells #[.slice x.lo.a xn x.lo.c] 23)
      rw [World.size_alloc] at h2
      exact ⟨by omega, by omega, Nat.le_refl _, by rw [HXN.out.1]; exact h2, by rw [HXN.out.2]; exact (RowKit.Below.heap_alloc _ _ _ (by simp)).trans (heap_alloc_new w _), (below_new _ _).alloc (by simp) _, IX.out.1, IX.out.2⟩)
    go_region_held3 (fun W => W.cell? ⟨ad.block, ad.off + 3, none⟩ = some (.slice x.lo.a xn x.lo.c) ∧ W.cell? ⟨ad.block, ad.off + 4, none⟩ = some (.slice x.hi.a xm x.hi.c)) (first | exact HC.out _ (Below.refl _ _) | (refine HC.out _ ?_; (repeat (first | with_reducible exact Below.refl _ _ | with_reducible refine Below.drew ?_ | with_reducible refine below_al ?_ _)); done) | (refine ⟨?_, ?_⟩ <;> (repeat (rw [cell_far (by first | exact hd0 | exact hd1 | (simp; omega))])) <;> (first | exact (HC.out _ (by repeat (first | with_reducible exact Below.refl _ _ | with_reducible refine Below.drew ?_ | with_reducible refine below_al ?_ _))).1 | exact (HC.out _ (by repeat (first | with_reducible exact Below.refl _ _ | with_reducible refine Below.drew ?_ | with_reducible refine below_al ?_ _))).2)) | go_keep) (fail)
    all_goals
      go_wp2_with fail
      go_meet
      first
        | exact ⟨w.heap.size, w.heap.size + 1, rfl, rfl, Lib.hid (E12.out.kept (by repeat (first | with_reducible exact Below.refl _ _ | with_reducible refine Below.drew ?_ | with_reducible refine below_al ?_ _)))⟩
        | exact ⟨w.heap.size + 1, w.heap.size, rfl, rfl, Lib.hid (E21.out.kept (by repeat (first | with_reducible exact Below.refl _ _ | with_reducible refine Below.drew ?_ | with_reducible refine below_al ?_ _)))⟩
  case rest =>
    obtain ⟨gl, gh, rfl, rfl, h0⟩ := hcut
    clear a0 a1 a2 a3 a4
    go_wp2_with fail
    go_loopw [21] (fun t21 wr => ∃ (k : Nat) (lo hi : Sl), k ≤ m ∧ t21 = .int .i64 k ∧ Hid (Endz w wr gl gh lo hi ∧ lo.l = loP (l.take (k + 1)) ∧ hi.l = hiP (l.take (k + 1)))) (fun t21 _ => m - (intOf t21).toNat)
    case atStart => exact ⟨0, x.lo, x.hi, by omega, rfl, Lib.hid ⟨h0.out, HT1.out.1.symm, HT1.out.2.symm⟩⟩
    case round =>
      obtain ⟨k, lo, hi, hk, rfl, hm⟩ := hrel
      by_cases hlt : k < m
      · have hq := List.getElem?_eq_getElem (l := l) (i := k + 1) (by have := HN.out; omega)
        generalize l[k + 1]'(by have := HN.out; omega) = y at hq
        obtain ⟨bd, rfl, a0, a1, a2, a3, a4⟩ := lies_table (HTL.out _ hm.out.1.bel) (show (l.drop 1)[k]? = some y by rw [List.getElem?_drop, show 1 + k = k + 1 by omega]; exact hq)
        have k0 : (k : Int) < m := by omega
        obtain ⟨yn, hyn⟩ : ∃ m, y.lo.l.length = m := ⟨_, rfl⟩
        obtain ⟨ym, hym⟩ : ∃ m, y.hi.l.length = m := ⟨_, rfl⟩
        obtain ⟨ln, hln⟩ : ∃ m, lo.l.length = m := ⟨_, rfl⟩
        obtain ⟨hn, hhn⟩ : ∃ m, hi.l.length = m := ⟨_, rfl⟩
        rw [hyn] at a3
        rw [hym] at a4
        have HY := Lib.hid (And.intro hyn hym)
        have HL := Lib.hid (And.intro hln hhn)
        have IY := Lib.hid (HI.out y (List.mem_of_getElem? hq))
        obtain ⟨x1, hx1⟩ : ∃ x, cmpL y.lo.l lo.l = x := ⟨_, rfl⟩
        obtain ⟨x2, hx2⟩ : ∃ x, cmpL y.hi.l hi.l = x := ⟨_, rfl⟩
        obtain ⟨b1, hb1⟩ : ∃ b, decide (x1 < 0) = b := ⟨_, rfl⟩
        obtain ⟨b2, hb2⟩ : ∃ b, decide (x2 > 0) = b := ⟨_, rfl⟩
        have hb2' : decide (0 < x2) = b2 := hb2
        have HS : Hid (loP (l.take (k + 1 + 1)) = (if b1 = true then y.lo.l else lo.l) ∧ hiP (l.take (k + 1 + 1)) = (if b2 = true then y.hi.l else hi.l)) := Lib.hid ⟨by rw [loP_step hq, ← hm.out.2.1, hx1, hb1], by rw [hiP_step hq, ← hm.out.2.2, hx2, hb2]⟩
        have HCM1 : Hid (∀ W, Below w.heap.size w W → Calls Try.prog 75 #[.slice y.lo.a yn y.lo.c, .slice lo.a ln lo.c] W fun e w' => e = .returned (.int .i64 x1) ∧ W = w') := Lib.hid (fun W hb => by
          rw [← hyn, ← hln, ← hx1]
          exact (compare_any _ _ _ _ _ _ _ _ _ (IY.out.1.kept hb) (hm.out.1.lin.kept hb)).mono fun _ _ h => ⟨h.1, h.2.symm⟩)
        have HCM2 : Hid (∀ W, Below w.heap.size w W → Calls Try.prog 75 #[.slice y.hi.a ym y.hi.c, .slice hi.a hn hi.c] W fun e w' => e = .returned (.int .i64 x2) ∧ W = w') := Lib.hid (fun W hb => by
          rw [← hym, ← hhn, ← hx2]
          exact (compare_any _ _ _ _ _ _ _ _ _ (IY.out.2.kept hb) (hm.out.1.hin.kept hb)).mono fun _ _ h => ⟨h.1, h.2.symm⟩)
        clear hq hx1 hx2 hyn hym hln hhn
        go_upto_region 7 with fail
        obtain ⟨wx, hwx⟩ : ∃ wx, wr.alloc (.cells #[.int .i64 y.i, .int .i64 y.v, .int .i64 y.n, .slice y.lo.a yn y.lo.c, .slice y.hi.a ym y.hi.c] 108) = wx := ⟨_, rfl⟩
        have E1 : Hid (Endz w wx gl gh lo hi ∧ wx.heap[wr.heap.size]? = some (.cells #[.int .i64 y.i, .int .i64 y.v, .int .i64 y.n, .slice y.lo.a yn y.lo.c, .slice y.hi.a ym y.hi.c] 108 (0, 0)) ∧ gl < wr.heap.size ∧ gh < wr.heap.size) := Lib.hid ⟨hwx ▸ hm.out.1.kept (below_new _ _), hwx ▸ heap_alloc_new wr _, (Array.getElem?_eq_some_iff.1 hm.out.1.ol).1, (Array.getElem?_eq_some_iff.1 hm.out.1.oh).1⟩
        try rw [hwx]
        clear hwx a0 a1 a2 a3 a4
        obtain ⟨c0, c1, c2, c3, c4⟩ := box_five E1.out.2.1
        obtain ⟨⟨p0, p1⟩, f0, f1⟩ := E1.out.1.cells
        rw [HL.out.1] at p0
        rw [HL.out.2] at p1
        cases b1
        · go_upto_region 9 with (go_at_call 75; refine (HCM1.out _ E1.out.1.bel).mono ?_; rintro e w' ⟨rfl, rfl⟩)
          cases b2
          · go_wp2_with (go_at_call 75; refine (HCM2.out _ E1.out.1.bel).mono ?_; rintro e w' ⟨rfl, rfl⟩)
            go_roundw
            case rel => exact ⟨k + 1, lo, hi, by omega, by go_num, Lib.hid ⟨E1.out.1, by rw [HS.out.1]; rfl, by rw [HS.out.2]; rfl⟩⟩
            case measure => simp [intOf]; omega
          · go_wp2_with (go_at_call 75; refine (HCM2.out _ E1.out.1.bel).mono ?_; rintro e w' ⟨rfl, rfl⟩)
            have E3 : Hid (Endz w (wx.setCell ⟨gh, 0, none⟩ (.slice y.hi.a ym y.hi.c)) gl gh lo y.hi) := Lib.hid (by have := E1.out.1.setHi y.hi IY.out.2; rwa [HY.out.2] at this)
            go_roundw
            case rel => exact ⟨k + 1, lo, y.hi, by omega, by go_num, Lib.hid ⟨E3.out, by rw [HS.out.1]; rfl, by rw [HS.out.2]; rfl⟩⟩
            case measure => simp [intOf]; omega
        · go_upto_region 9 with (go_at_call 75; refine (HCM1.out _ E1.out.1.bel).mono ?_; rintro e w' ⟨rfl, rfl⟩)
          have E2 : Hid (Endz w (wx.setCell ⟨gl, 0, none⟩ (.slice y.lo.a yn y.lo.c)) gl gh y.lo hi ∧ (wx.setCell ⟨gl, 0, none⟩ (.slice y.lo.a yn y.lo.c)).heap[wr.heap.size]? = some (.cells #[.int .i64 y.i, .int .i64 y.v, .int .i64 y.n, .slice y.lo.a yn y.lo.c, .slice y.hi.a ym y.hi.c] 108 (0, 0))) := Lib.hid ⟨by have := E1.out.1.setLo y.lo IY.out.1; rwa [HY.out.1] at this, (Below.heap_setCell wx ⟨gl, 0, none⟩ _ wr.heap.size (by have := E1.out.2.2.1; simp; omega)).trans E1.out.2.1⟩
          clear c0 c1 c2 c3 c4 p0 p1 f0 f1
          generalize (wx.setCell ⟨gl, 0, none⟩ (.slice y.lo.a yn y.lo.c)) = w2 at E2 ⊢
          obtain ⟨c0, c1, c2, c3, c4⟩ := box_five E2.out.2
          obtain ⟨⟨p0, p1⟩, f0, f1⟩ := E2.out.1.cells
          rw [HL.out.2] at p1
          cases b2
          · go_wp2_with (go_at_call 75; refine (HCM2.out _ E2.out.1.bel).mono ?_; rintro e w' ⟨rfl, rfl⟩)
            go_roundw
            case rel => exact ⟨k + 1, y.lo, hi, by omega, by go_num, Lib.hid ⟨E2.out.1, by rw [HS.out.1]; rfl, by rw [HS.out.2]; rfl⟩⟩
            case measure => simp [intOf]; omega
          · go_wp2_with (go_at_call 75; refine (HCM2.out _ E2.out.1.bel).mono ?_; rintro e w' ⟨rfl, rfl⟩)
            have E3 : Hid (Endz w (w2.setCell ⟨gh, 0, none⟩ (.slice y.hi.a ym y.hi.c)) gl gh y.lo y.hi) := Lib.hid (by have := E2.out.1.setHi y.hi IY.out.2; rwa [HY.out.2] at this)
            go_roundw
            case rel => exact ⟨k + 1, y.lo, y.hi, by omega, by go_num, Lib.hid ⟨E3.out, by rw [HS.out.1]; rfl, by rw [HS.out.2]; rfl⟩⟩
            case measure => simp [intOf]; omega
      · obtain rfl : k = m := by omega
        have e : l.take (k + 1) = l := List.take_of_length_le (by have := HN.out; omega)
        rw [e] at hm
        go_wp2_with fail
        go_ret
        exact ⟨gh, gl, lo, hi, rfl, hm.out⟩
end Go.Proofs.Ytcffpkflijpdjaa
