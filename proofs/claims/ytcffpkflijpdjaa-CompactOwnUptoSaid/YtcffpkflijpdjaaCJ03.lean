/-
  Walks: an entry copied. Walks: entries cut into blocks. Memory: rows that stand beside others. Walks: a table opened out of its file. Walks: whether entries are what a row of the index tells. Walks: the two questions of a table's seeking. A key looked for in a table: what stands while it is looked for, and behind it. Memory: what hangs on none of somebody else's blocks. Walks: an entry copied, by the document. Walks: entries copied, by the document. Walks: are two entries alike, by the document. Walks: are lists of entries alike, by the document. Walks: whether an entry may be, and the order of two, by the document.
-/
import Derived.Deep.RegionWith
import Derived.Deep.QuietTactic
import Derived.BigQuiet
import Derived.Deep.RegionLaw
import Derived.Test.YtcffpkflijpdjaaCJ02
set_option linter.unusedSimpArgs false
set_option linter.unusedVariables false
namespace Go.Proofs.Ytcffpkflijpdjaa
open Go.RowKit
/-- An entry that was made: both its slices are new memory. -/
def ECop (w : World) (x : En) (e : Ending) (w' : World) : Prop := ∃ x' : En, x'.rd = x.rd ∧ e = .returned x'.val ∧ Row w' w.heap.size x'.k.a x'.k.c x'.k.l ∧ Row w' w.heap.size x'.v.a x'.v.c x'.v.l ∧ Below w.heap.size w w'
theorem set_two {W : World} {z : Nat} {a s d b u v : Value} {t : TypeId} (h : W.heap[z]? = some (.cells #[a, s, d, b] t (0, 0))) : ((W.setCell ⟨z, 0, none⟩ u).setCell ⟨z, 3, none⟩ v).heap[z]? = some (.cells #[u, s, d, v] t (0, 0)) := by
  have h1 := heap_setCell_same W z 0 _ t u h
  exact heap_setCell_same _ z 3 _ t v h1
theorem set_two_other (W : World) (z j : Nat) (u v : Value) (hj : j ≠ z) : ((W.setCell ⟨z, 0, none⟩ u).setCell ⟨z, 3, none⟩ v).heap[j]? = W.heap[j]? := by
  rw [heap_setCell_other _ _ _ _ hj, heap_setCell_other _ _ _ _ hj]
theorem set_two_kp (W : World) (z B : Nat) (u v : Value) (hz : z < B) : Kp (fun j => B ≤ j) W ((W.setCell ⟨z, 0, none⟩ u).setCell ⟨z, 3, none⟩ v) :=
  ((Kp.refl _ W).set z 0 u (by omega)).set z 3 v (by omega)
theorem set_four {W : World} {z : Nat} {a b c d e f g h : Value} {t : TypeId} (hz : W.heap[z]? = some (.cells #[a, b, c, d] t (0, 0))) : ((((W.setCell ⟨z, 0, none⟩ e).setCell ⟨z, 1, none⟩ f).setCell ⟨z, 2, none⟩ g).setCell ⟨z, 3, none⟩ h).heap[z]? = some (.cells #[e, f, g, h] t (0, 0)) := by
  have h1 := heap_setCell_same W z 0 _ t e hz
  have h2 := heap_setCell_same _ z 1 _ t f h1
  have h3 := heap_setCell_same _ z 2 _ t g h2
  exact heap_setCell_same _ z 3 _ t h h3
theorem set_four_kp {S : Nat → Prop} {w W : World} (hk : Kp S w W) (z : Nat) (e f g h : Value) (hz : ¬ S z) : Kp S w ((((W.setCell ⟨z, 0, none⟩ e).setCell ⟨z, 1, none⟩ f).setCell ⟨z, 2, none⟩ g).setCell ⟨z, 3, none⟩ h) :=
  (((hk.set z 0 e hz).set z 1 f hz).set z 2 g hz).set z 3 h hz
theorem Kp.of_below {B : Nat} {w W : World} (h : Below B w W) : Kp (fun j => j < B) w W := ⟨h.os, h.tape, h.output, h.size, fun k hk => h.block k hk⟩
theorem set_two_below {w W : World} {B : Nat} (h : Below B w W) (z : Nat) (u v : Value) (hz : B ≤ z) : Below B w ((W.setCell ⟨z, 0, none⟩ u).setCell ⟨z, 3, none⟩ v) :=
  ⟨h.os, h.tape, h.output, by simpa using h.size, fun k hk => (set_two_other W z k u v (by omega)).trans (h.block k hk)⟩
set_option maxRecDepth 100000 in
set_option maxHeartbeats 8000000 in
theorem eclone_any (x : En) (w : World) (hx : EIn w x) (hk : x.k.l.length ≤ 140737488355328) (hv : x.v.l.length ≤ 140737488355328) : Calls Try.prog 49 #[x.val] w (ECop w x) := by
  have HX := Lib.hid (fun (W : World) (hb : Below w.heap.size w W) => hx.kept hb)
  rw [En.val_eq]
  obtain ⟨⟨ka, kc, k⟩, s, d, ⟨va, vc, v⟩⟩ := x
  simp only at hk hv ⊢
  obtain ⟨n, hn⟩ : ∃ n, k.length = n := ⟨_, rfl⟩
  obtain ⟨m, hm⟩ : ∃ m, v.length = m := ⟨_, rfl⟩
  have HCK : Hid (∀ W : World, Below w.heap.size w W → Calls Try.prog 61 #[.slice ka n kc] W (Longer W W.heap.size k)) := Lib.hid (fun W hb => clone_any ka k n kc W hn (HX.out W hb).1.bys hk)
  have HCV : Hid (∀ W : World, Below w.heap.size w W → Calls Try.prog 61 #[.slice va m vc] W (Longer W W.heap.size v)) := Lib.hid (fun W hb => clone_any va v m vc W hm (HX.out W hb).2.bys hv)
  have HN := Lib.hid hn
  have HM := Lib.hid hm
  rw [hn, hm]
  clear hn hm hk hv hx
  go_enter Try.func49, Try.ntmps49
  go_upto_region 1 with fail
  obtain ⟨w1, hw1⟩ : ∃ w1, ((w.alloc (.cells #[.slice ka n kc, .int .i64 s, .bool d, .slice va m vc] 26)).alloc (.cells #[.slice none 0 0, .int .i64 0, .bool false, .slice none 0 0] 26)) = w1 := ⟨_, rfl⟩
  have B1 : Hid (Below w.heap.size w w1) := Lib.hid (hw1 ▸ (below_new _ _).alloc (by simp) _)
  have hz : w1.heap.size = w.heap.size + 2 := by rw [← hw1]; simp
  have HH : Hid (∀ W : World, Below w1.heap.size w1 W → W.heap[w.heap.size]? = some (.cells #[.slice ka n kc, .int .i64 s, .bool d, .slice va m vc] 26 (0, 0))) := Lib.hid (fun W hb => by
    refine (hb.block w.heap.size (by omega)).trans ?_
    rw [← hw1, RowKit.Below.heap_alloc _ _ _ (by simp)]
    exact heap_alloc_new w _)
  have HR : Hid (∀ W : World, Below w1.heap.size w1 W → W.heap[w.heap.size + 1]? = some (.cells #[.slice none 0 0, .int .i64 0, .bool false, .slice none 0 0] 26 (0, 0))) := Lib.hid (fun W hb => by
    refine (hb.block (w.heap.size + 1) (by omega)).trans ?_
    have := heap_alloc_new (w.alloc (.cells #[.slice ka n kc, .int .i64 s, .bool d, .slice va m vc] 26)) (.cells #[.slice none 0 0, .int .i64 0, .bool false, .slice none 0 0] 26)
    rwa [hw1, show (w.alloc (.cells #[.slice ka n kc, .int .i64 s, .bool d, .slice va m vc] 26)).heap.size = w.heap.size + 1 by simp] at this)
  rw [hw1]
  clear hw1
  have HC : Hid (∀ W : World, Below w1.heap.size w1 W → W.cell? ⟨w.heap.size, 0, none⟩ = some (.slice ka n kc) ∧ W.cell? ⟨w.heap.size, 3, none⟩ = some (.slice va m vc) ∧ W.frozen? ⟨w.heap.size, 0, none⟩ = false ∧ W.frozen? ⟨w.heap.size, 3, none⟩ = false) := Lib.hid (fun W hb => by
    have h := HH.out W hb
    refine ⟨?_, ?_, ?_, ?_⟩ <;> simp [World.cell?, World.frozen?, h])
  have CB := Lib.hid (Below.refl w1.heap.size w1)
  obtain ⟨p1, p2, -, -⟩ := HC.out w1 CB.out
  go_region_with (go_at_call 61; first
    | (refine (HCK.out _ (B1.out.trans ((by repeat (first | exact Below.refl _ _ | exact CB.out | refine Below.drew ?_) : Below w1.heap.size w1 _).mono B1.out.size))).mono ?_; rintro e w2 ⟨A1, c1, rfl, r1, b1⟩; have R1 := Lib.hid (r1.mono (by repeat (first | exact Below.refl _ _ | exact CB.out | refine Below.drew ?_) : Below w1.heap.size w1 _).size); replace CB := Lib.hid (below_then (by repeat (first | exact Below.refl _ _ | exact CB.out | refine Below.drew ?_) : Below w1.heap.size w1 _) b1); obtain ⟨q1, q2, -, -⟩ := HC.out w2 CB.out; clear r1 b1)
    | (refine (HCV.out _ (B1.out.trans ((by repeat (first | exact Below.refl _ _ | exact CB.out | refine Below.drew ?_) : Below w1.heap.size w1 _).mono B1.out.size))).mono ?_; rintro e w3 ⟨A2, c2, rfl, r2, b2⟩; have R2 := Lib.hid (r2.mono (by repeat (first | exact Below.refl _ _ | exact CB.out | refine Below.drew ?_) : Below w1.heap.size w1 _).size); have B3 := Lib.hid (below_then (by repeat (first | exact Below.refl _ _ | refine Below.drew ?_) : Below w2.heap.size w2 _) b2); replace CB := Lib.hid (below_then (by repeat (first | exact Below.refl _ _ | exact CB.out | refine Below.drew ?_) : Below w1.heap.size w1 _) b2); obtain ⟨r1, r2, r3, r4⟩ := HC.out w3 CB.out; clear b2))
  all_goals
    have H4 := Lib.hid (set_two (u := .slice A1 k.length c1) (v := .slice A2 v.length c2) (HH.out w3 CB.out))
    have H5 := Lib.hid ((set_two_other w3 w.heap.size (w.heap.size + 1) (.slice A1 k.length c1) (.slice A2 v.length c2) (by omega)).trans (HR.out w3 CB.out))
    have K4 := Lib.hid (set_two_kp w3 w.heap.size w1.heap.size (.slice A1 k.length c1) (.slice A2 v.length c2) (by omega))
    have B4 := Lib.hid (set_two_below (B1.out.trans (CB.out.mono B1.out.size)) w.heap.size (.slice A1 k.length c1) (.slice A2 v.length c2) (Nat.le_refl _))
    clear r1 r2 r3 r4 q1 q2 p1 p2 HH HR HC HX HCK HCV
    generalize ((w3.setCell ⟨w.heap.size, 0, none⟩ (.slice A1 k.length c1)).setCell ⟨w.heap.size, 3, none⟩ (.slice A2 v.length c2)) = w4 at H4 H5 K4 B4 ⊢
    obtain ⟨x0, x1, x2, x3⟩ : w4.cell? ⟨w.heap.size, 0, none⟩ = some (.slice A1 k.length c1) ∧ w4.cell? ⟨w.heap.size, 1, none⟩ = some (.int .i64 s) ∧ w4.cell? ⟨w.heap.size, 2, none⟩ = some (.bool d) ∧ w4.cell? ⟨w.heap.size, 3, none⟩ = some (.slice A2 v.length c2) := by
      have h := H4.out
      refine ⟨?_, ?_, ?_, ?_⟩ <;> simp [World.cell?, h]
    obtain ⟨y0, y1, y2, y3, f0, f1, f2, f3⟩ : w4.cell? ⟨w.heap.size + 1, 0, none⟩ = some (.slice none 0 0) ∧ w4.cell? ⟨w.heap.size + 1, 1, none⟩ = some (.int .i64 0) ∧ w4.cell? ⟨w.heap.size + 1, 2, none⟩ = some (.bool false) ∧ w4.cell? ⟨w.heap.size + 1, 3, none⟩ = some (.slice none 0 0) ∧ w4.frozen? ⟨w.heap.size + 1, 0, none⟩ = false ∧ w4.frozen? ⟨w.heap.size + 1, 1, none⟩ = false ∧ w4.frozen? ⟨w.heap.size + 1, 2, none⟩ = false ∧ w4.frozen? ⟨w.heap.size + 1, 3, none⟩ = false := by
      have h := H5.out
      refine ⟨?_, ?_, ?_, ?_, ?_, ?_, ?_, ?_⟩ <;> simp [World.cell?, World.frozen?, h]
    go_wp2_with fail
    have H6 := Lib.hid (set_four (e := .slice A1 k.length c1) (f := .int .i64 s) (g := .bool d) (h := .slice A2 v.length c2) H5.out)
    have K5 := Lib.hid (set_four_kp K4.out (w.heap.size + 1) (.slice A1 k.length c1) (.int .i64 s) (.bool d) (.slice A2 v.length c2) (by omega))
    have B5 := Lib.hid ((set_four_kp (Kp.of_below B4.out) (w.heap.size + 1) (.slice A1 k.length c1) (.int .i64 s) (.bool d) (.slice A2 v.length c2) (by omega)).below (fun _ hk => hk))
    clear x0 x1 x2 x3 y0 y1 y2 y3 f0 f1 f2 f3 H4 H5 K4 B4
    generalize ((((w4.setCell ⟨w.heap.size + 1, 0, none⟩ (.slice A1 k.length c1)).setCell ⟨w.heap.size + 1, 1, none⟩ (.int .i64 s)).setCell ⟨w.heap.size + 1, 2, none⟩ (.bool d)).setCell ⟨w.heap.size + 1, 3, none⟩ (.slice A2 v.length c2)) = w5 at H6 K5 B5 ⊢
    obtain ⟨x0, x1, x2, x3⟩ : w5.cell? ⟨w.heap.size + 1, 0, none⟩ = some (.slice A1 k.length c1) ∧ w5.cell? ⟨w.heap.size + 1, 1, none⟩ = some (.int .i64 s) ∧ w5.cell? ⟨w.heap.size + 1, 2, none⟩ = some (.bool d) ∧ w5.cell? ⟨w.heap.size + 1, 3, none⟩ = some (.slice A2 v.length c2) := by
      have h := H6.out
      refine ⟨?_, ?_, ?_, ?_⟩ <;> simp [World.cell?, h]
    have R3 := own_kp (R1.out.kept B3.out (Nat.le_refl _)) K5.out (fun ad ha => (own_in (R1.out.kept B3.out (Nat.le_refl _)) ad ha).1)
    have R4 := own_kp R2.out K5.out (fun ad ha => (own_in R2.out ad ha).1)
    have Q3 := Lib.hid (own_mono R3 B1.out.size)
    have Q4 := Lib.hid (own_mono R4 B1.out.size)
    clear R3 R4
    try simp only [Exit.inBlock, Exit.then]
    refine bodyPost_ret (results_cell_row rfl _ _ (w.heap.size + 1) 26 #[.slice A1 k.length c1, .int .i64 s, .bool d, .slice A2 v.length c2] (0, 0) _ rfl H6.out Try.underlying26 rfl (by kernel_rfl)) rfl ?_
    exact ⟨⟨⟨A1, c1, k⟩, s, d, ⟨A2, c2, v⟩⟩, rfl, rfl, Q3.out, Q4.out, B5.out⟩
end Go.Proofs.Ytcffpkflijpdjaa
namespace Go.Proofs.Ytcffpkflijpdjaa
open Go.RowKit
theorem lies_take {w : World} {A : Option Addr} {l : List En} (h : Lies w A (evals l)) (k : Nat) : Lies w A (evals (l.take k)) := by
  have e : evals l = evals (l.take k) ++ evals (l.drop k) := by rw [← evals_append, List.take_append_drop]
  rcases h with h | ⟨ad, h1, h2⟩
  · rw [e] at h
    exact .inl (List.append_eq_nil_iff.1 h).1
  · refine .inr ⟨ad, h1, fun j u hu => h2 j u ?_⟩
    rw [e, List.getElem?_append_left (List.getElem?_eq_some_iff.1 hu).1]
    exact hu
theorem lies_drop {w : World} {A : Option Addr} {l : List En} (h : Lies w A (evals l)) (k c : Nat) (hc : l.length ≤ c) : Lies w (if c = k then A else A.map (·.add (k * 4))) (evals (l.drop k)) := by
  have := lies_part h k (l.drop k).length c hc
  rwa [List.take_length] at this
end Go.Proofs.Ytcffpkflijpdjaa
namespace Go.Proofs.Ytcffpkflijpdjaa
open Go.RowKit
/-- While a row grows, rows of other elements stay. -/
theorem own_apart {w w' : World} {B D : Nat} {e1 e2 : TypeId} {s1 s2 : Nat} {A C : Option Addr} {n c m d n' m' : Nat} {xs ys : List Value} (h : w.ownsRow B e1 s1 (.slice A n c) n' xs) (hs : w.ownsRow D e2 s2 (.slice C m d) m' ys) (hne : e1 ≠ e2) (hg : w.grownBy w' (Value.slice C m d).ownBlock) : w'.ownsRow B e1 s1 (.slice A n c) n' xs := by
  refine ⟨h.1, ?_⟩
  rcases h.2 with hn | ⟨g, cap, cur, e1', h1, h2, h3⟩
  · exact .inl hn
  · refine .inr ⟨g, cap, cur, e1', h1, ?_, h3⟩
    have hlt : g < w.heap.size := (Array.getElem?_eq_some_iff.1 h2).1
    rw [hg.block g hlt, h2]
    intro e
    rcases hs.2 with ⟨hn, _⟩ | ⟨g', cap', cur', e', _, h2', _⟩
    · rw [hn] at e
      simp [Value.ownBlock] at e
    · rw [e'] at e
      obtain rfl : g = g' := by simpa [Value.ownBlock] using e
      rw [h2] at h2'
      injection h2' with h2'
      injection h2' with _ h2'
      exact hne h2'
/-- Pairs whose keys can be read and whose values are rows of the call's own, none in the block of a row that grows. -/
def MadeV (w : World) (B : Nat) (C : Option Addr) (T : List Bp) : Prop := ∀ q ∈ T, Row w B q.v.a q.v.c q.v.l ∧ Byt q.v.l ∧ ∀ ad cd, q.v.a = some ad → C = some cd → ad.block ≠ cd.block
theorem MadeV.nil (w : World) (B : Nat) (C : Option Addr) : MadeV w B C [] := fun _ h => by cases h
theorem MadeV.kept {w w' : World} {B D : Nat} {C : Option Addr} {T : List Bp} (h : MadeV w B C T) (hb : Below D w w') (hD : w.heap.size ≤ D) : MadeV w' B C T := fun q hq => ⟨(h q hq).1.kept hb hD, (h q hq).2⟩
theorem MadeV.grown {w w' : World} {B : Nat} {C C' : Option Addr} {c n : Nat} {T : List Bp} (h : MadeV w B C T) (hg : w.grownBy w' (Value.slice C n c).ownBlock) (hp : ∀ ad, C' = some ad → (∃ a0, C = some a0 ∧ ad.block = a0.block) ∨ w.heap.size ≤ ad.block) : MadeV w' B C' T := fun q hq => by
  obtain ⟨h1, h2, h3⟩ := h q hq
  refine ⟨own_far h1 hg (fun ad hA cd hC => h3 cd ad hC hA), h2, fun ad cd ha hc => ?_⟩
  rcases hp cd hc with ⟨a0, e1, e2⟩ | hlt
  · rw [e2]
    exact h3 ad a0 ha e1
  · have := (own_in h1 ad ha).2
    omega
theorem MadeV.beside {w w' : World} {B D : Nat} {C P : Option Addr} {d : Nat} {T U : List Bp} (h : MadeV w B C T) (hs : Prow w D P d U) (hg : w.grownBy w' (Value.slice P U.length d).ownBlock) : MadeV w' B C T := fun q hq => ⟨(h q hq).1.besideP hs hg, (h q hq).2⟩
theorem MadeV.snoc {w : World} {B : Nat} {C : Option Addr} {T : List Bp} {q : Bp} (h : MadeV w B C T) (h1 : Row w B q.v.a q.v.c q.v.l) (h2 : Byt q.v.l) (h3 : ∀ ad cd, q.v.a = some ad → C = some cd → ad.block ≠ cd.block) : MadeV w B C (T ++ [q]) := fun x hx => by
  rcases List.mem_append.1 hx with hx | hx
  · exact h x hx
  · rw [List.mem_singleton] at hx
    subst hx
    exact ⟨h1, h2, h3⟩
/-- What stands behind some of the keys of a block. -/
structure PkS (l : List En) (T : List Bp) (V : List Int) (l' : List En) : Prop where
  pr : pairsE (ers l) = rds T ++ pairsE (ers l')
  vs : versE (ers l) = V ++ versE (ers l')
  rest : ∀ q ∈ l', q ∈ l
  keys : ∀ p ∈ T, ∃ q ∈ l, p.k = q.k
theorem PkS.step {l : List En} {T : List Bp} {V : List Int} {x : En} {m : List En} {r : Nat} {A : Option Addr} {c : Nat} (h : PkS l T V (x :: m)) (hr : runN x.k.l (ers (x :: m)) = r) : PkS l (T ++ [⟨x.k, ⟨A, c, digs (r : Nat)⟩⟩]) (V ++ versE (ers ((x :: m).take r))) ((x :: m).drop r) := by
  refine ⟨?_, ?_, fun q hq => h.rest q (List.mem_of_mem_drop hq), ?_⟩
  · rw [h.pr, rds_append, List.append_assoc, ers_drop]
    have e := pairsE_cons x.rd (ers m)
    rw [show x.rd :: ers m = ers (x :: m) from rfl, show x.rd.1 = x.k.l from rfl, hr] at e
    rw [e]
    simp [rds, Bp.rd]
  · rw [h.vs, List.append_assoc, ← versE_append, ← ers_append, List.take_append_drop]
  · intro p hp
    rcases List.mem_append.1 hp with hp | hp
    · exact h.keys p hp
    · rw [List.mem_singleton] at hp
      subst hp
      exact ⟨x, h.rest x (by simp), rfl⟩
theorem PkS.ins {w : World} {B : Nat} {C : Option Addr} {l : List En} {T : List Bp} {V : List Int} {l' : List En} (h : PkS l T V l') (hi : EIns w l) (hm : MadeV w B C T) : Ins w T := fun p hp => by
  obtain ⟨q, hq, e⟩ := h.keys p hp
  exact ⟨e ▸ (hi q hq).1, (hm p hp).1.in_ (hm p hp).2.1⟩
end Go.Proofs.Ytcffpkflijpdjaa
namespace Go.Proofs.Ytcffpkflijpdjaa
open Go.RowKit
theorem obj_kept {w w' : World} {B g : Nat} {o : Obj} (h : w.heap[g]? = some o) (hb : Below B w w') (hB : w.heap.size ≤ B) : w'.heap[g]? = some o := by
  have hlt : g < w.heap.size := (Array.getElem?_eq_some_iff.1 h).1
  rw [hb.block g (by omega)]
  exact h
end Go.Proofs.Ytcffpkflijpdjaa
namespace Go.Proofs.Ytcffpkflijpdjaa
open Go.RowKit
/-- The cells of an entry at a place. -/
def E4 (W : World) (a : Addr) (ka : Option Addr) (kn kc : Nat) (s : Int) (d : Bool) (va : Option Addr) (vn vc : Nat) : Prop :=
  W.cell? a = some (.slice ka kn kc) ∧ W.cell? ⟨a.block, a.off + 1, none⟩ = some (.int .i64 s) ∧ W.cell? ⟨a.block, a.off + 2, none⟩ = some (.bool d) ∧ W.cell? ⟨a.block, a.off + 3, none⟩ = some (.slice va vn vc)
theorem in_nil (w : World) : In w none [] ([] : List Int).length 0 := ⟨rfl, Nat.le_refl _, by decide, Bys.nil _ _, fun x h => by cases h⟩
end Go.Proofs.Ytcffpkflijpdjaa
namespace Go.Proofs.Ytcffpkflijpdjaa
open Go.RowKit
/-- An entry in a box of its own. -/
def EBox (w : World) (b : Nat) (x : En) : Prop := w.cell? ⟨b, 0, none⟩ = some (.slice x.k.a x.k.l.length x.k.c) ∧ w.cell? ⟨b, 1, none⟩ = some (.int .i64 x.s) ∧ w.cell? ⟨b, 2, none⟩ = some (.bool x.d) ∧ w.cell? ⟨b, 3, none⟩ = some (.slice x.v.a x.v.l.length x.v.c)
theorem cell_below {w w' : World} {a : Addr} {v : Value} (h : w.cell? a = some v) (hb : Below w.heap.size w w') : w'.cell? a = some v := by
  have hlt : a.block < w.heap.size := by
    rcases Nat.lt_or_ge a.block w.heap.size with g | g
    · exact g
    · have : w.heap[a.block]? = none := Array.getElem?_eq_none g
      simp [World.cell?, this] at h
  unfold World.cell? at h ⊢
  rw [hb.block _ hlt]
  exact h
theorem EBox.kept {w w' : World} {b : Nat} {x : En} (h : EBox w b x) (hb : Below w.heap.size w w') : EBox w' b x := ⟨cell_below h.1 hb, cell_below h.2.1 hb, cell_below h.2.2.1 hb, cell_below h.2.2.2 hb⟩
end Go.Proofs.Ytcffpkflijpdjaa
namespace Go.Proofs.Ytcffpkflijpdjaa
open Go.RowKit
theorem allocs_get : ∀ (l : List Obj) (w : World), (∀ (i : Nat) (o : Obj), l[i]? = some o → (l.foldl World.alloc w).heap[w.heap.size + i]? = some o) ∧ (l.foldl World.alloc w).heap.size = w.heap.size + l.length ∧ Below w.heap.size w (l.foldl World.alloc w)
  | [], w => ⟨fun i o h => by simp at h, by simp, Below.refl _ _⟩
  | p :: l, w => by
    obtain ⟨h1, h2, h3⟩ := allocs_get l (w.alloc p)
    have s1 := World.size_alloc w p
    have b1 := below_new w p
    rw [s1] at h1 h2 h3
    refine ⟨fun i o h => ?_, by rw [List.foldl_cons, h2, List.length_cons]; omega, b1.trans (h3.mono (by omega))⟩
    rw [List.foldl_cons]
    cases i with
    | zero =>
      injection h with h
      subst h
      exact (h3.block _ (by omega)).trans (heap_alloc_new w p)
    | succ i =>
      have := h1 i o (by simpa using h)
      rwa [show w.heap.size + (i + 1) = w.heap.size + 1 + i by omega]
/-- His results. -/
def ResG (H : Nat) (y : En) (b : Bool) (er : Int) (W : World) : Prop := W.heap[H + 1]? = some (.cells #[y.k.val, .int .i64 y.s, .bool y.d, y.v.val] 26 (0, 0)) ∧ W.heap[H + 2]? = some (.cells #[.bool b] 4 (0, 0)) ∧ W.heap[H + 3]? = some (.cells #[.int .i64 er] 27 (0, 0))
section
variable {H : Nat} {w W W' : World} {k : Sl} {s : Int}
theorem ResG.of {y : En} {b : Bool} {er : Int} (h : ResG H y b er W) (q : ∀ g o, H ≤ g → g < H + 6 → W.heap[g]? = some o → W'.heap[g]? = some o) : ResG H y b er W' := ⟨q _ _ (by omega) (by omega) h.1, q _ _ (by omega) (by omega) h.2.1, q _ _ (by omega) (by omega) h.2.2⟩
end
end Go.Proofs.Ytcffpkflijpdjaa
namespace Go.Proofs.Ytcffpkflijpdjaa
open Go.RowKit
/-- All stands that is in none of the blocks S, nor in the map. -/
def AgX (S : Nat → Prop) (mb : Nat) (W V : World) : Prop := ∀ g o, W.heap[g]? = some o → ¬ S g → g ≠ mb → V.heap[g]? = some o
theorem AgX.refl (S : Nat → Prop) (mb : Nat) (W : World) : AgX S mb W W := fun _ _ h _ _ => h
theorem AgX.trans {S : Nat → Prop} {mb : Nat} {A B C : World} (h : AgX S mb A B) (k : AgX S mb B C) : AgX S mb A C := fun g o e hs hm => k g o (h g o e hs hm) hs hm
theorem AgX.of_below {S : Nat → Prop} {mb : Nat} {W V : World} (h : Below W.heap.size W V) : AgX S mb W V := fun _ _ e _ _ => obj_kept e h (Nat.le_refl _)
end Go.Proofs.Ytcffpkflijpdjaa
namespace Go.Proofs.Ytcffpkflijpdjaa
open Go.RowKit
theorem cell_far {W : World} {g i : Nat} {u : Value} {x : Addr} (h : x.block ≠ g) : (W.setCell ⟨g, i, none⟩ u).cell? x = W.cell? x := by
  unfold World.cell?
  rw [Below.heap_setCell W ⟨g, i, none⟩ u x.block h]
set_option maxRecDepth 100000 in
set_option maxHeartbeats 8000000 in
theorem refOne_any (x : En) (w : World) (hx : EIn w x) (hk : x.k.l.length ≤ 140737488351232) (hv : x.v.l.length ≤ 140737488351232) : Calls Try.prog 17 #[x.val] w (ECop w x) := by
  have HX := Lib.hid (fun (W : World) (hb : Below w.heap.size w W) => hx.kept hb)
  have HL := Lib.hid (And.intro hk hv)
  rw [En.val_eq]
  obtain ⟨⟨ka, kc, k⟩, s, d, ⟨va, vc, v⟩⟩ := x
  simp only at hk hv HL ⊢
  obtain ⟨n, hn⟩ : ∃ n, k.length = n := ⟨_, rfl⟩
  obtain ⟨m, hm⟩ : ∃ m, v.length = m := ⟨_, rfl⟩
  have HN := Lib.hid hn
  have HM := Lib.hid hm
  rw [hn, hm]
  clear hn hm hk hv hx
  go_enter Try.func17, Try.ntmps17
  go_upto_region 1 with fail
  obtain ⟨w1, hw1⟩ : ∃ w1, ((w.alloc (.cells #[.slice ka n kc, .int .i64 s, .bool d, .slice va m vc] 26)).alloc (.cells #[.slice none 0 0, .int .i64 0, .bool false, .slice none 0 0] 26)) = w1 := ⟨_, rfl⟩
  have B1 : Hid (Below w.heap.size w w1) := Lib.hid (hw1 ▸ (below_new _ _).alloc (by simp) _)
  have hz : w1.heap.size = w.heap.size + 2 := by rw [← hw1]; simp
  have HH : Hid (∀ W : World, Below w1.heap.size w1 W → W.heap[w.heap.size]? = some (.cells #[.slice ka n kc, .int .i64 s, .bool d, .slice va m vc] 26 (0, 0))) := Lib.hid (fun W hb => by
    refine (hb.block w.heap.size (by omega)).trans ?_
    rw [← hw1, RowKit.Below.heap_alloc _ _ _ (by simp)]
    exact heap_alloc_new w _)
  have HR : Hid (∀ W : World, Below w1.heap.size w1 W → W.heap[w.heap.size + 1]? = some (.cells #[.slice none 0 0, .int .i64 0, .bool false, .slice none 0 0] 26 (0, 0))) := Lib.hid (fun W hb => by
    refine (hb.block (w.heap.size + 1) (by omega)).trans ?_
    have := heap_alloc_new (w.alloc (.cells #[.slice ka n kc, .int .i64 s, .bool d, .slice va m vc] 26)) (.cells #[.slice none 0 0, .int .i64 0, .bool false, .slice none 0 0] 26)
    rwa [hw1, show (w.alloc (.cells #[.slice ka n kc, .int .i64 s, .bool d, .slice va m vc] 26)).heap.size = w.heap.size + 1 by simp] at this)
  rw [hw1]
  clear hw1
  have HZ := Lib.hid hz
  have HC : Hid (∀ W : World, Below w1.heap.size w1 W → (W.cell? ⟨w.heap.size, 0, none⟩ = some (.slice ka n kc) ∧ W.cell? ⟨w.heap.size, 1, none⟩ = some (.int .i64 s) ∧ W.cell? ⟨w.heap.size, 2, none⟩ = some (.bool d) ∧ W.cell? ⟨w.heap.size, 3, none⟩ = some (.slice va m vc))) := Lib.hid (fun W hb => by
    have h := HH.out W hb
    refine ⟨?_, ?_, ?_, ?_⟩ <;> simp [World.cell?, h])
  have HD : Hid (∀ W : World, Below w1.heap.size w1 W → (W.cell? ⟨w.heap.size + 1, 0, none⟩ = some (.slice none 0 0) ∧ W.cell? ⟨w.heap.size + 1, 1, none⟩ = some (.int .i64 0) ∧ W.cell? ⟨w.heap.size + 1, 2, none⟩ = some (.bool false) ∧ W.cell? ⟨w.heap.size + 1, 3, none⟩ = some (.slice none 0 0)) ∧ W.frozen? ⟨w.heap.size + 1, 0, none⟩ = false ∧ W.frozen? ⟨w.heap.size + 1, 1, none⟩ = false ∧ W.frozen? ⟨w.heap.size + 1, 2, none⟩ = false ∧ W.frozen? ⟨w.heap.size + 1, 3, none⟩ = false) := Lib.hid (fun W hb => by
    have h := HR.out W hb
    refine ⟨⟨?_, ?_, ?_, ?_⟩, ?_, ?_, ?_, ?_⟩ <;> simp [World.cell?, World.frozen?, h])
  have HX2 : Hid (∀ W : World, Below w1.heap.size w1 W → Bys W ka k ∧ Bys W va v) := Lib.hid (fun W hb => by
    have := HX.out W (B1.out.trans (hb.mono B1.out.size))
    exact ⟨this.1.bys, this.2.bys⟩)
  have BB := Lib.hid (Below.refl w1.heap.size w1)
  have T1 := Lib.hid trivial
  have T2 := Lib.hid trivial
  clear hz HX
  go_region_held3 (fun W => (W.cell? ⟨w.heap.size, 0, none⟩ = some (.slice ka n kc) ∧ W.cell? ⟨w.heap.size, 1, none⟩ = some (.int .i64 s) ∧ W.cell? ⟨w.heap.size, 2, none⟩ = some (.bool d) ∧ W.cell? ⟨w.heap.size, 3, none⟩ = some (.slice va m vc))) (first | exact HC.out _ BB.out | (refine HC.out _ ?_; (repeat (first | with_reducible exact BB.out | with_reducible exact Below.refl _ _ | with_reducible refine Below.drew ?_ | with_reducible refine below_al ?_ _)); done) | (refine ⟨?_, ?_, ?_, ?_⟩ <;> (rw [cell_far (by simp), cell_far (by simp), cell_far (by simp), cell_far (by simp)]; have h := HC.out _ BB.out; first | exact h.1 | exact h.2.1 | exact h.2.2.1 | exact h.2.2.2)) | go_keep) (first
    | (have t1 := T1; refine step_append_zero _ (by rfl) (.tmp 3) (.tmp 5) (by rfl) _ k ka n kc rfl rfl HN.out ?_ ?_ ?_ ?_; (repeat (first | ((with_reducible refine Lit0.new _ _ ?_); first | (with_reducible rfl) | (focus (simp only [World.size_alloc]; done))) | with_reducible refine Lit0.drew ?_ | with_reducible refine Lit0.alloc ?_ _ | with_reducible refine LK.out _ ?_)); (refine (HX2.out _ ?_).1; (repeat (first | with_reducible exact BB.out | with_reducible exact Below.refl _ _ | with_reducible refine Below.drew ?_ | with_reducible refine below_al ?_ _))); (have := HL.out; have := HN.out; omega); intro A6 c6 w6 r6 b6; have R6 : Hid (Row w6 w1.heap.size A6 c6 k) := Lib.hid (r6.mono (by have := BB.out.size; have := HZ.out; first | omega | (simp; omega) | (simp only [drew_size, World.size_alloc]; omega))); have LK := Lib.hid (fun g (h : Lit0 _ g) => h.kept b6); have BB : Hid (Below w1.heap.size w1 w6) := Lib.hid (below_then (by repeat (first | with_reducible exact BB.out | with_reducible exact Below.refl _ _ | with_reducible refine Below.drew ?_ | with_reducible refine below_al ?_ _)) b6); clear r6 b6 T1 t1)
    | (have t2 := T2; refine step_append_zero _ (by rfl) (.tmp 11) (.tmp 13) (by rfl) _ v va m vc rfl rfl HM.out ?_ ?_ ?_ ?_; (repeat (first | ((with_reducible refine Lit0.new _ _ ?_); first | (with_reducible rfl) | (focus (simp only [World.size_alloc]; done))) | with_reducible refine Lit0.drew ?_ | with_reducible refine Lit0.alloc ?_ _ | with_reducible refine LK.out _ ?_)); (refine (HX2.out _ ?_).2; (repeat (first | with_reducible exact BB.out | with_reducible exact Below.refl _ _ | with_reducible refine Below.drew ?_ | with_reducible refine below_al ?_ _))); (have := HL.out; have := HM.out; omega); intro A7 c7 w7 r7 b7; have R7 : Hid (Row w7 w1.heap.size A7 c7 v) := Lib.hid (r7.mono (by have := BB.out.size; have := HZ.out; first | omega | (simp; omega) | (simp only [drew_size, World.size_alloc]; omega))); have R6 : Hid (Row w7 w1.heap.size A6 c6 k) := Lib.hid (R6.out.kept (below_then (by repeat (first | with_reducible exact Below.refl _ _ | with_reducible refine Below.drew ?_ | with_reducible refine below_al ?_ _)) b7) (Nat.le_refl _)); have BB : Hid (Below w1.heap.size w1 w7) := Lib.hid (below_then (by repeat (first | with_reducible exact BB.out | with_reducible exact Below.refl _ _ | with_reducible refine Below.drew ?_ | with_reducible refine below_al ?_ _)) b7); obtain ⟨⟨y0, y1, y2, y3⟩, f0, f1, f2, f3⟩ := HD.out w7 BB.out; clear r7 b7 LK T2 t2))
  all_goals
    clear y0 y1 y2 y3 f0 f1 f2 f3
    have H6 := Lib.hid (set_four (e := .slice A6 n c6) (f := .int .i64 s) (g := .bool d) (h := .slice A7 m c7) (HR.out w7 BB.out))
    have K5 := Lib.hid (set_four_kp (Kp.refl (fun j => j ≠ w.heap.size + 1) w7) (w.heap.size + 1) (.slice A6 n c6) (.int .i64 s) (.bool d) (.slice A7 m c7) (by simp))
    have B5 := Lib.hid ((set_four_kp (Kp.of_below (B1.out.trans (BB.out.mono B1.out.size))) (w.heap.size + 1) (.slice A6 n c6) (.int .i64 s) (.bool d) (.slice A7 m c7) (by omega)).below (fun _ hk => hk))
    rename_i hHeld
    clear hHeld
    clear HH HR HC HD HX2
    generalize ((((w7.setCell ⟨w.heap.size + 1, 0, none⟩ (.slice A6 n c6)).setCell ⟨w.heap.size + 1, 1, none⟩ (.int .i64 s)).setCell ⟨w.heap.size + 1, 2, none⟩ (.bool d)).setCell ⟨w.heap.size + 1, 3, none⟩ (.slice A7 m c7)) = w5 at H6 K5 B5 ⊢
    have Q3 : Hid (Row w5 w.heap.size A6 c6 k) := Lib.hid (own_mono (own_kp R6.out K5.out (fun ad ha => by have := (own_in R6.out ad ha).1; have := HZ.out; omega)) B1.out.size)
    have Q4 : Hid (Row w5 w.heap.size A7 c7 v) := Lib.hid (own_mono (own_kp R7.out K5.out (fun ad ha => by have := (own_in R7.out ad ha).1; have := HZ.out; omega)) B1.out.size)
    go_wp2_with fail
    try simp only [Exit.inBlock, Exit.then]
    refine bodyPost_ret (results_cell_row rfl _ _ (w.heap.size + 1) 26 #[.slice A6 n c6, .int .i64 s, .bool d, .slice A7 m c7] (0, 0) _ rfl H6.out Try.underlying26 rfl (by kernel_rfl)) rfl ?_
    exact ⟨⟨⟨A6, c6, k⟩, s, d, ⟨A7, c7, v⟩⟩, rfl, by rw [En.val_eq]; simp only [HN.out, HM.out], Q3.out, Q4.out, B5.out⟩
end Go.Proofs.Ytcffpkflijpdjaa
namespace Go.Proofs.Ytcffpkflijpdjaa
open Go.RowKit
theorem ret_sliceN {A : Option Addr} {n m c : Nat} (h : n = m) : Ending.returned (.slice A n c) = .returned (.slice A m c) := by rw [h]
set_option maxRecDepth 100000 in
set_option maxHeartbeats 4000000 in
theorem refCopy_any (A : Option Addr) (l : List En) (n c : Nat) (w : World) (hn : l.length = n) (h : Lies w A (evals l)) (hi : EIns w l) (hl : n * 64 ≤ 140737488351232) (hs : ∀ q ∈ l, q.k.l.length ≤ 140737488351232 ∧ q.v.l.length ≤ 140737488351232) :
    Calls Try.prog 23 #[.slice A n c] w (ECopied w l) := by
  have HP := Lib.hid (fun (w' : World) (hb : Below w.heap.size w w') => h.kept hb)
  have HI := Lib.hid (fun (w' : World) (hb : Below w.heap.size w w') => hi.kept hb)
  have HS := Lib.hid hs
  have HN := Lib.hid hn
  clear h hn hi hs
  go_enter Try.func23, Try.ntmps23
  go_wp2_with fail
  go_loopw [3, 7] (fun t3 t7 wr => ∃ (k : Nat) (A2 : Option Addr) (c2 : Nat) (l' : List En), k ≤ n ∧ t7 = .int .i64 k ∧ t3 = .slice A2 k c2 ∧ Hid (l'.length = k) ∧ Hid (ers l' = (ers l).take k) ∧ Hid (EMades wr w.heap.size l') ∧ Hid (Erow wr w.heap.size A2 c2 l') ∧ Hid (Below w.heap.size w wr)) (fun _ t7 _ => n - (intOf t7).toNat)
  case atStart => exact ⟨0, none, 0, [], by omega, rfl, rfl, Lib.hid rfl, Lib.hid rfl, Lib.hid (EMades.nil _ _), Lib.hid (Erow.nil _ _), Lib.hid (Below.refl _ _)⟩
  case round =>
    obtain ⟨k, A2, c2, l', hk, rfl, rfl, hl2, hr, hm, r2, b2⟩ := hrel
    by_cases hlt : k < n
    · have hq := List.getElem?_eq_getElem (l := l) (i := k) (by have := HN.out; omega)
      generalize l[k]'(by have := HN.out; omega) = x at hq
      obtain ⟨ad, rfl, a0, a1, a2, a3⟩ := lies_entry (HP.out _ b2.out) hq
      have hmem := List.mem_of_getElem? hq
      have HO := Lib.hid (refOne_any x wr (HI.out _ b2.out x hmem) (HS.out x hmem).1 (HS.out x hmem).2)
      have HQ := Lib.hid (ers_get hq)
      rw [En.val_eq] at HO
      obtain ⟨m, hm2⟩ : ∃ m, x.k.l.length = m := ⟨_, rfl⟩
      obtain ⟨z, hz2⟩ : ∃ z, x.v.l.length = z := ⟨_, rfl⟩
      rw [hm2] at a0 HO
      rw [hz2] at a3 HO
      have k0 : (k : Int) < n := by omega
      clear hq hm2 hz2 hmem
      go_wp2_with (first
        | (go_at_call 17; refine HO.out.mono ?_; rintro e w6 ⟨x', hx', rfl, q1, q2, b6⟩; have HX := Lib.hid hx'; have Q1 := Lib.hid q1; have Q2 := Lib.hid q2; have B6 := Lib.hid b6; rw [En.val_eq]; clear hx' q1 q2 b6 HO)
        | (refine wpList_append_erow _ (by rfl) (.tmp 10) (.tmp 16) (by rfl) w.heap.size A2 c2 l' [x'] _ k 1 1 (by simp [Act.eval]) (by simp [Act.eval]) hl2.out rfl ((r2.out.kept B6.out (Nat.le_refl _)).alloc _) (lit_entry w6 x'.k.a x'.v.a x'.k.c x'.v.c x'.k.l x'.v.l x'.s x'.d _ _ rfl rfl) (by have := b2.out.size; have := B6.out.size; simp; omega) (by have := hl2.out; simp only [List.length_singleton]; omega) ?_; intro A8 c8 w8 r8 b8 g8))
      have W6 : w.heap.size ≤ wr.heap.size := b2.out.size
      have R8 := Lib.hid r8
      have G8 : (w6.alloc (.cells #[.slice x'.k.a x'.k.l.length x'.k.c, .int .i64 x'.s, .bool x'.d, .slice x'.v.a x'.v.l.length x'.v.c] 26)).grownBy w8 (Value.slice A2 l'.length c2).ownBlock := by rw [hl2.out]; exact g8
      have hE := (r2.out.kept B6.out (Nat.le_refl _)).alloc (.cells #[.slice x'.k.a x'.k.l.length x'.k.c, .int .i64 x'.s, .bool x'.d, .slice x'.v.a x'.v.l.length x'.v.c] 26)
      have CM := Lib.hid ((((hm.out.kept B6.out (Nat.le_refl _)).kept (below_new w6 _) (Nat.le_refl _)).besideE hE G8))
      have Q3 := Lib.hid (Row.mono ((Q1.out.kept (below_new w6 _) (Nat.le_refl _)).besideE hE G8) W6)
      have Q4 := Lib.hid (Row.mono ((Q2.out.kept (below_new w6 _) (Nat.le_refl _)).besideE hE G8) W6)
      have CB : Hid (Below w.heap.size w w8) := Lib.hid (((b2.out.trans (B6.out.mono W6)).alloc (by have := B6.out.size; omega) _).trans b8)
      clear hE G8 g8 b8 r8 W6
      go_wp2_with fail
      go_roundw
      case rel => exact ⟨k + 1, A8, c8, l' ++ [x'], by omega, by go_num, rfl, Lib.hid (by rw [List.length_append, hl2.out]; rfl), Lib.hid (by rw [ers_append, hr.out, List.take_add_one, HQ.out, ← HX.out]; rfl), Lib.hid (CM.out.snoc Q3.out Q4.out), Lib.hid R8.out, CB⟩
      case measure => simp [intOf]; omega
    · obtain rfl : k = n := by omega
      have hr' := hr.out
      rw [List.take_of_length_le (by rw [ers_len]; have := HN.out; omega)] at hr'
      have HR := Lib.hid hr'
      clear hr'
      go_wp2_with fail
      go_ret
      exact ⟨l', _, _, HR.out, ret_sliceN hl2.out.symm, hm.out, r2.out, b2.out⟩
end Go.Proofs.Ytcffpkflijpdjaa
namespace Go.Proofs.Ytcffpkflijpdjaa
open Go.RowKit
theorem rd_ne {x y : En} : x.rd ≠ y.rd ↔ ¬ (x.k.l = y.k.l ∧ x.s = y.s ∧ x.d = y.d ∧ x.v.l = y.v.l) := by
  unfold En.rd
  simp [Prod.ext_iff]
/-- Both laid in boxes. -/
theorem two_boxes (w : World) (a0 a1 a2 a3 b0 b1 b2 b3 : Value) (t u : TypeId) :
    let w2 := (w.alloc (.cells #[a0, a1, a2, a3] t)).alloc (.cells #[b0, b1, b2, b3] u)
    (w2.heap.size = w.heap.size + 2 ∧ Below w.heap.size w w2) ∧ ∀ W, Below w2.heap.size w2 W → (W.cell? ⟨w.heap.size, 0, none⟩ = some a0 ∧ W.cell? ⟨w.heap.size, 1, none⟩ = some a1 ∧ W.cell? ⟨w.heap.size, 2, none⟩ = some a2 ∧ W.cell? ⟨w.heap.size, 3, none⟩ = some a3) ∧ (W.cell? ⟨w.heap.size + 1, 0, none⟩ = some b0 ∧ W.cell? ⟨w.heap.size + 1, 1, none⟩ = some b1 ∧ W.cell? ⟨w.heap.size + 1, 2, none⟩ = some b2 ∧ W.cell? ⟨w.heap.size + 1, 3, none⟩ = some b3) := by
  intro w2
  obtain ⟨hq, hs, hb⟩ := allocs_get [.cells #[a0, a1, a2, a3] t, .cells #[b0, b1, b2, b3] u] w
  have q0 := hq 0 _ rfl
  have q1 := hq 1 _ rfl
  refine ⟨⟨hs, hb⟩, fun W hW => ?_⟩
  have p0 := (hW.block w.heap.size (Nat.lt_of_lt_of_eq (by simp) hs.symm)).trans q0
  have p1 := (hW.block (w.heap.size + 1) (Nat.lt_of_lt_of_eq (by simp) hs.symm)).trans q1
  refine ⟨⟨?_, ?_, ?_, ?_⟩, ?_, ?_, ?_, ?_⟩ <;> simp [World.cell?, p0, p1]
set_option maxRecDepth 100000 in
set_option maxHeartbeats 4000000 in
theorem refSameOne_any (x y : En) (w : World) (hx : EIn w x) (hy : EIn w y) : Calls Try.prog 19 #[x.val, y.val] w fun e w' => e = .returned (.bool (decide (x.rd = y.rd))) ∧ Below w.heap.size w w' := by
  obtain ⟨b, hb⟩ : ∃ b, decide (x.rd = y.rd) = b := ⟨_, rfl⟩
  rw [hb]
  have HB := Lib.hid hb
  have HS := Lib.hid (str_of_inj hx.1.byt hy.1.byt)
  have HT := Lib.hid (str_of_inj hx.2.byt hy.2.byt)
  rw [En.val_eq, En.val_eq]
  obtain ⟨n, hn⟩ : ∃ n, x.k.l.length = n := ⟨_, rfl⟩
  obtain ⟨m, hm⟩ : ∃ m, x.v.l.length = m := ⟨_, rfl⟩
  obtain ⟨n', hn'⟩ : ∃ n, y.k.l.length = n := ⟨_, rfl⟩
  obtain ⟨m', hm'⟩ : ∃ m, y.v.l.length = m := ⟨_, rfl⟩
  rw [hn, hm, hn', hm']
  have TB := two_boxes w (.slice x.k.a n x.k.c) (.int .i64 x.s) (.bool x.d) (.slice x.v.a m x.v.c) (.slice y.k.a n' y.k.c) (.int .i64 y.s) (.bool y.d) (.slice y.v.a m' y.v.c) 26 26
  obtain ⟨w2, hw2⟩ : ∃ w2, ((w.alloc (.cells #[.slice x.k.a n x.k.c, .int .i64 x.s, .bool x.d, .slice x.v.a m x.v.c] 26)).alloc (.cells #[.slice y.k.a n' y.k.c, .int .i64 y.s, .bool y.d, .slice y.v.a m' y.v.c] 26)) = w2 := ⟨_, rfl⟩
  simp only [hw2] at TB
  obtain ⟨⟨-, hbw⟩, hc⟩ := TB
  obtain ⟨⟨p0, p1, p2, p3⟩, q0, q1, q2, q3⟩ := hc w2 (Below.refl _ _)
  have C0 := conv_any (hx.1.kept hbw).bys n x.k.c hn
  have C1 := conv_any (hy.1.kept hbw).bys n' y.k.c hn'
  have C2 := conv_any (hx.2.kept hbw).bys m x.v.c hm
  have C3 := conv_any (hy.2.kept hbw).bys m' y.v.c hm'
  have HW2 := Lib.hid hbw
  clear hb hx hy hn hm hn' hm' hc hbw
  go_enter Try.func19, Try.ntmps19
  go_upto_region 1 with fail
  try rw [hw2]
  clear hw2
  by_cases e1 : x.k.l = y.k.l
  · have d1 : ((strOfNums x.k.l).toList == (strOfNums y.k.l).toList) = true := by rw [e1]; exact beq_self_eq_true _
    by_cases e2 : x.s = y.s
    · have d2 : (x.s == y.s) = true := by simpa using e2
      by_cases e3 : x.d = y.d
      · have d3 : (x.d == y.d) = true := by simpa using e3
        by_cases e4 : x.v.l = y.v.l
        · have d4 : ((strOfNums x.v.l).toList == (strOfNums y.v.l).toList) = true := by rw [e4]; exact beq_self_eq_true _
          have HV : Hid (b = true) := Lib.hid (by rw [← HB.out]; unfold En.rd; simp [e1, e2, e3, e4])
          clear e1 e2 e3 e4
          go_wp2_with fail
          go_ret
          exact ⟨by rw [HV.out]; try rfl, HW2.out⟩
        · have d4 : ((strOfNums x.v.l).toList == (strOfNums y.v.l).toList) = false := toList_ne (fun e => e4 (HT.out.1 e))
          have HV : Hid (b = false) := Lib.hid (by rw [← HB.out, decide_eq_false_iff_not]; exact rd_ne.2 (fun h => e4 h.2.2.2))
          clear e1 e2 e3 e4
          go_wp2_with fail
          go_ret
          exact ⟨by rw [HV.out]; try rfl, HW2.out⟩
      · have d3 : (x.d == y.d) = false := by simpa using e3
        have HV : Hid (b = false) := Lib.hid (by rw [← HB.out, decide_eq_false_iff_not]; exact rd_ne.2 (fun h => e3 h.2.2.1))
        clear e1 e2 e3
        go_wp2_with fail
        go_ret
        exact ⟨by rw [HV.out]; try rfl, HW2.out⟩
    · have d2 : (x.s == y.s) = false := by simpa using e2
      have HV : Hid (b = false) := Lib.hid (by rw [← HB.out, decide_eq_false_iff_not]; exact rd_ne.2 (fun h => e2 h.2.1))
      clear e1 e2
      go_wp2_with fail
      go_ret
      exact ⟨by rw [HV.out]; try rfl, HW2.out⟩
  · have d1 : ((strOfNums x.k.l).toList == (strOfNums y.k.l).toList) = false := toList_ne (fun e => e1 (HS.out.1 e))
    have HV : Hid (b = false) := Lib.hid (by rw [← HB.out, decide_eq_false_iff_not]; exact rd_ne.2 (fun h => e1 h.1))
    clear e1
    go_wp2_with fail
    go_ret
    exact ⟨by rw [HV.out]; try rfl, HW2.out⟩
end Go.Proofs.Ytcffpkflijpdjaa
namespace Go.Proofs.Ytcffpkflijpdjaa
open Go.RowKit
theorem ers_differ {l l' : List En} {k : Nat} {x y : En} (hx : (ers l)[k]? = some x.rd) (hy : (ers l')[k]? = some y.rd) (h : x.rd ≠ y.rd) : decide (ers l = ers l') = false := by
  simp only [decide_eq_false_iff_not]
  intro e
  rw [e, hy] at hx
  exact h (Option.some.inj hx).symm
theorem ers_same {l l' : List En} {k : Nat} {x y : En} (hx : (ers l)[k]? = some x.rd) (hy : (ers l')[k]? = some y.rd) (h : x.rd = y.rd) (hr : (ers l).take k = (ers l').take k) : (ers l).take (k + 1) = (ers l').take (k + 1) := by
  rw [List.take_add_one, List.take_add_one, hx, hy, hr, h]
set_option maxRecDepth 100000 in
set_option maxHeartbeats 4000000 in
theorem refSame_any (A A' : Option Addr) (l l' : List En) (n n' c c' : Nat) (w : World) (hn : l.length = n) (hn' : l'.length = n') (h : Lies w A (evals l)) (h' : Lies w A' (evals l')) (hi : EIns w l) (hi' : EIns w l') (hl : (n : Int) ≤ 9223372036854775000) :
    Calls Try.prog 24 #[.slice A n c, .slice A' n' c'] w fun e w' => e = .returned (.bool (decide (ers l = ers l'))) ∧ Below w.heap.size w w' := by
  obtain ⟨b, hb⟩ : ∃ b, decide (ers l = ers l') = b := ⟨_, rfl⟩
  rw [hb]
  have HB := Lib.hid hb
  have HP := Lib.hid (fun (W : World) (hb : Below w.heap.size w W) => And.intro (h.kept hb) (h'.kept hb))
  have HI := Lib.hid (fun (W : World) (hb : Below w.heap.size w W) => And.intro (hi.kept hb) (hi'.kept hb))
  have HN := Lib.hid (And.intro hn hn')
  clear h h' hi hi' hb hn hn'
  by_cases hnn : n = n'
  · subst hnn
    go_enter Try.func24, Try.ntmps24
    go_wp2_with fail
    go_loopw [13] (fun t13 wr => ∃ k : Nat, k ≤ n ∧ t13 = .int .i64 k ∧ Hid ((ers l).take k = (ers l').take k) ∧ Hid (Below w.heap.size w wr)) (fun t13 _ => n - (intOf t13).toNat)
    case atStart => exact ⟨0, by omega, rfl, Lib.hid rfl, Lib.hid (Below.refl _ _)⟩
    case round =>
      obtain ⟨k, hk, rfl, hr, hbw⟩ := hrel
      by_cases hlt : k < n
      · have hq := List.getElem?_eq_getElem (l := l) (i := k) (by have := HN.out.1; omega)
        generalize l[k]'(by have := HN.out.1; omega) = x at hq
        have hq' := List.getElem?_eq_getElem (l := l') (i := k) (by have := HN.out.2; omega)
        generalize l'[k]'(by have := HN.out.2; omega) = y at hq'
        obtain ⟨ad, rfl, a0⟩ := lies_entry (HP.out _ hbw.out).1 hq
        obtain ⟨ad', rfl, b0⟩ := lies_entry (HP.out _ hbw.out).2 hq'
        have HA := Lib.hid (fun (W : World) (hb : Below w.heap.size w W) => lies_entry_at (HP.out W hb).1 hq)
        have HA' := Lib.hid (fun (W : World) (hb : Below w.heap.size w W) => lies_entry_at (HP.out W hb).2 hq')
        have HSO := Lib.hid (fun (W : World) (hb : Below w.heap.size w W) => refSameOne_any x y W ((HI.out W hb).1 x (List.mem_of_getElem? hq)) ((HI.out W hb).2 y (List.mem_of_getElem? hq')))
        have HQ := Lib.hid (And.intro (ers_get hq) (ers_get hq'))
        unfold AtE at HA HA'
        simp only [En.val_eq] at HSO
        obtain ⟨m, hm⟩ : ∃ m, x.k.l.length = m := ⟨_, rfl⟩
        obtain ⟨z, hz⟩ : ∃ m, x.v.l.length = m := ⟨_, rfl⟩
        obtain ⟨m', hm'⟩ : ∃ m, y.k.l.length = m := ⟨_, rfl⟩
        obtain ⟨z', hz'⟩ : ∃ m, y.v.l.length = m := ⟨_, rfl⟩
        rw [hm, hz] at HA HSO
        rw [hm', hz'] at HA' HSO
        have CB := Lib.hid hbw.out
        have WS : Hid (w.heap.size ≤ wr.heap.size) := Lib.hid hbw.out.size
        have k0 : (k : Int) < n := by omega
        clear hq hq' hm hz hm' hz' a0 b0
        obtain ⟨B, hBB⟩ : ∃ B, decide (x.rd = y.rd) = B := ⟨_, rfl⟩
        rw [hBB] at HSO
        have HBB := Lib.hid hBB
        clear hBB
        go_upto_region 6 with fail
        go_region_held3 (fun W => (W.cell? (ad.add (k * 4)) = some (.slice x.k.a m x.k.c) ∧ W.cell? ⟨(ad.add (k * 4)).block, (ad.add (k * 4)).off + 1, none⟩ = some (.int .i64 x.s) ∧ W.cell? ⟨(ad.add (k * 4)).block, (ad.add (k * 4)).off + 2, none⟩ = some (.bool x.d) ∧ W.cell? ⟨(ad.add (k * 4)).block, (ad.add (k * 4)).off + 3, none⟩ = some (.slice x.v.a z x.v.c)) ∧ (W.cell? (ad'.add (k * 4)) = some (.slice y.k.a m' y.k.c) ∧ W.cell? ⟨(ad'.add (k * 4)).block, (ad'.add (k * 4)).off + 1, none⟩ = some (.int .i64 y.s) ∧ W.cell? ⟨(ad'.add (k * 4)).block, (ad'.add (k * 4)).off + 2, none⟩ = some (.bool y.d) ∧ W.cell? ⟨(ad'.add (k * 4)).block, (ad'.add (k * 4)).off + 3, none⟩ = some (.slice y.v.a z' y.v.c))) (first | exact ⟨HA.out _ CB.out, HA'.out _ CB.out⟩ | exact ⟨HA.out _ CB.out.drew, HA'.out _ CB.out.drew⟩ | go_keep) (first | (go_at_call 19; refine (HSO.out _ (by first | exact CB.out | exact CB.out.drew)).mono ?_; rintro e w6 ⟨rfl, b6⟩; have CB : Hid (Below w.heap.size w w6) := Lib.hid ((by first | exact CB.out | exact CB.out.drew : Below w.heap.size w _).trans (b6.mono WS.out)); clear b6))
        all_goals
          cases B
          · have HV : Hid (b = false) := Lib.hid (by rw [← HB.out]; exact ers_differ HQ.out.1 HQ.out.2 (of_decide_eq_false HBB.out))
            go_wp2_with fail
            go_ret
            exact ⟨by rw [HV.out]; try rfl, CB.out⟩
          · have HR := Lib.hid (ers_same HQ.out.1 HQ.out.2 (of_decide_eq_true HBB.out) hr.out)
            go_wp2_with fail
            go_roundw
            case rel => exact ⟨k + 1, by omega, by go_num, HR, CB⟩
            case measure => simp [intOf]; omega
      · obtain rfl : k = n := by omega
        have hr' := hr.out
        rw [List.take_of_length_le (by rw [ers_len]; have := HN.out.1; omega), List.take_of_length_le (by rw [ers_len]; have := HN.out.2; omega)] at hr'
        have HV : Hid (b = true) := Lib.hid (by rw [← HB.out]; simpa using hr')
        clear hr' hr
        go_wp2_with fail
        go_ret
        exact ⟨by rw [HV.out]; try rfl, hbw.out⟩
  · have d0 : ((n : Int) != n') = true := by simp; omega
    have HV : Hid (b = false) := Lib.hid (by rw [← HB.out]; simp; intro e; have := congrArg List.length e; rw [ers_len, ers_len] at this; have := HN.out; omega)
    go_enter Try.func24, Try.ntmps24
    go_wp2_with fail
    go_ret
    exact ⟨by rw [HV.out]; try rfl, Below.refl _ _⟩
end Go.Proofs.Ytcffpkflijpdjaa
namespace Go.Proofs.Ytcffpkflijpdjaa
open Go.RowKit
set_option maxRecDepth 100000 in
set_option maxHeartbeats 4000000 in
theorem refGood_any (q : En) (w : World) : Calls Try.prog 62 #[q.val] w fun e w' => e = .returned (.bool (decide (GoodE q.rd))) ∧ Below w.heap.size w w' := by
  obtain ⟨b, hb⟩ : ∃ b, decide (GoodE q.rd) = b := ⟨_, rfl⟩
  rw [hb, En.val_eq]
  obtain ⟨⟨ka, kc, k⟩, s, d, ⟨va, vc, v⟩⟩ := q
  have HB : Hid (decide (((1 ≤ k.length ∧ k.length ≤ 200) ∧ (1 ≤ s ∧ s ≤ 1099511627776) ∧ v.length ≤ 4096 ∧ (d = true → v = []))) = b) := Lib.hid hb
  have HV : Hid (v = [] ↔ v.length = 0) := Lib.hid List.length_eq_zero_iff.symm
  simp only
  obtain ⟨n, hn⟩ : ∃ n, k.length = n := ⟨_, rfl⟩
  obtain ⟨m, hm⟩ : ∃ m, v.length = m := ⟨_, rfl⟩
  simp only [hn, hm]
  have HB2 : Hid (decide (((1 ≤ n ∧ n ≤ 200) ∧ (1 ≤ s ∧ s ≤ 1099511627776) ∧ m ≤ 4096 ∧ (d = true → m = 0))) = b) := Lib.hid (by rw [← HB.out, hn, hm]; congr 1; rw [HV.out, hm])
  clear hb HB HV hn hm
  obtain ⟨B1, C1⟩ := box_cells w (.slice ka n kc) (.int .i64 s) (.bool d) (.slice va m vc)
  obtain ⟨x0, x1, x2, x3⟩ := C1 _ (Below.refl _ _)
  have HB1 := Lib.hid B1
  clear C1 B1
  by_cases h0 : ¬ (1 ≤ n)
  · have d0 : decide ((1 : Int) ≤ (n : Int)) = false := decide_eq_false (by omega)
    obtain rfl : b = false := by rw [← HB2.out, decide_eq_false_iff_not]; omega
    clear h0
    clear HB2
    go_enter Try.func62, Try.ntmps62
    go_wp2_with fail
    go_ret
    exact ⟨by first | rfl | simp, HB1.out⟩
  have d0 : decide ((1 : Int) ≤ (n : Int)) = true := decide_eq_true (by omega)
  by_cases h1 : ¬ (n ≤ 200)
  · have d1 : decide ((n : Int) ≤ 200) = false := decide_eq_false (by omega)
    obtain rfl : b = false := by rw [← HB2.out, decide_eq_false_iff_not]; omega
    clear h1
    clear HB2
    go_enter Try.func62, Try.ntmps62
    go_wp2_with fail
    go_ret
    exact ⟨by first | rfl | simp, HB1.out⟩
  have d1 : decide ((n : Int) ≤ 200) = true := decide_eq_true (by omega)
  by_cases h2 : ¬ (1 ≤ s)
  · have d2 : decide (1 ≤ s) = false := decide_eq_false (by omega)
    obtain rfl : b = false := by rw [← HB2.out, decide_eq_false_iff_not]; omega
    clear h2
    clear HB2
    go_enter Try.func62, Try.ntmps62
    go_wp2_with fail
    go_ret
    exact ⟨by first | rfl | simp, HB1.out⟩
  have d2 : decide (1 ≤ s) = true := decide_eq_true (by omega)
  by_cases h3 : ¬ (s ≤ 1099511627776)
  · have d3 : decide (s ≤ 1099511627776) = false := decide_eq_false (by omega)
    obtain rfl : b = false := by rw [← HB2.out, decide_eq_false_iff_not]; omega
    clear h3
    clear HB2
    go_enter Try.func62, Try.ntmps62
    go_wp2_with fail
    go_ret
    exact ⟨by first | rfl | simp, HB1.out⟩
  have d3 : decide (s ≤ 1099511627776) = true := decide_eq_true (by omega)
  by_cases h4 : ¬ (m ≤ 4096)
  · have d4 : decide ((m : Int) ≤ 4096) = false := decide_eq_false (by omega)
    obtain rfl : b = false := by rw [← HB2.out, decide_eq_false_iff_not]; omega
    clear h4
    clear HB2
    go_enter Try.func62, Try.ntmps62
    go_wp2_with fail
    go_ret
    exact ⟨by first | rfl | simp, HB1.out⟩
  have d4 : decide ((m : Int) ≤ 4096) = true := decide_eq_true (by omega)
  cases d
  · obtain rfl : b = true := by rw [← HB2.out, decide_eq_true_iff]; exact ⟨⟨by omega, by omega⟩, ⟨by omega, by omega⟩, by omega, fun e => by cases e⟩
    clear h0 h1 h2 h3 h4
    clear HB2
    go_enter Try.func62, Try.ntmps62
    go_wp2_with fail
    go_ret
    exact ⟨by first | rfl | simp, HB1.out⟩
  · by_cases h5 : m = 0
    · subst h5
      obtain rfl : b = true := by rw [← HB2.out, decide_eq_true_iff]; exact ⟨⟨by omega, by omega⟩, ⟨by omega, by omega⟩, by omega, fun _ => rfl⟩
      clear h0 h1 h2 h3 h4
      clear HB2
      go_enter Try.func62, Try.ntmps62
      go_wp2_with fail
      go_ret
      exact ⟨by first | rfl | simp, HB1.out⟩
    · obtain rfl : b = false := by rw [← HB2.out, decide_eq_false_iff_not]; exact fun h => h5 (h.2.2.2 rfl)
      have d5 : ((m : Int) == 0) = false := by simpa using h5
      clear h0 h1 h2 h3 h4 h5
      clear HB2
      go_enter Try.func62, Try.ntmps62
      go_wp2_with fail
      go_ret
      exact ⟨by first | rfl | simp, HB1.out⟩
set_option maxRecDepth 100000 in
set_option maxHeartbeats 4000000 in
theorem less_bytes (L M : List Int) (w : World) (hL : Byt L) (hM : Byt M) (l1 : L.length ≤ 281474976710656) (l2 : M.length ≤ 281474976710656) : Calls Try.prog 80 #[.string (strOfNums L), .string (strOfNums M)] w fun e w' => e = .returned (.int .i64 (cmpL L M)) ∧ ∃ k, w' = w.drewN k := by
  have h := less_any (strOfNums L) (strOfNums M) w (by rw [← nums_len, nums_of_str L hL]; exact l1) (by rw [← nums_len, nums_of_str M hM]; exact l2)
  rwa [nums_of_str L hL, nums_of_str M hM] at h
set_option maxRecDepth 100000 in
set_option maxHeartbeats 4000000 in
theorem refCmp_any (x y : En) (w : World) (hx : EIn w x) (hy : EIn w y) (l1 : x.k.l.length ≤ 281474976710656) (l2 : y.k.l.length ≤ 281474976710656) : Calls Try.prog 57 #[x.val, y.val] w fun e w' => e = .returned (.int .i64 (ordE x.rd y.rd)) ∧ Below w.heap.size w w' := by
  obtain ⟨o, ho⟩ : ∃ o, ordE x.rd y.rd = o := ⟨_, rfl⟩
  rw [ho]
  have HO : Hid ((if cmpL x.k.l y.k.l ≠ 0 then cmpL x.k.l y.k.l else if y.s < x.s then -1 else if x.s < y.s then 1 else 0) = o) := Lib.hid ho
  rw [En.val_eq, En.val_eq]
  obtain ⟨n, hn⟩ : ∃ n, x.k.l.length = n := ⟨_, rfl⟩
  obtain ⟨m, hm⟩ : ∃ m, x.v.l.length = m := ⟨_, rfl⟩
  obtain ⟨n', hn'⟩ : ∃ n, y.k.l.length = n := ⟨_, rfl⟩
  obtain ⟨m', hm'⟩ : ∃ m, y.v.l.length = m := ⟨_, rfl⟩
  rw [hn, hm, hn', hm']
  have TB := two_boxes w (.slice x.k.a n x.k.c) (.int .i64 x.s) (.bool x.d) (.slice x.v.a m x.v.c) (.slice y.k.a n' y.k.c) (.int .i64 y.s) (.bool y.d) (.slice y.v.a m' y.v.c) 26 26
  obtain ⟨w2, hw2⟩ : ∃ w2, ((w.alloc (.cells #[.slice x.k.a n x.k.c, .int .i64 x.s, .bool x.d, .slice x.v.a m x.v.c] 26)).alloc (.cells #[.slice y.k.a n' y.k.c, .int .i64 y.s, .bool y.d, .slice y.v.a m' y.v.c] 26)) = w2 := ⟨_, rfl⟩
  simp only [hw2] at TB
  obtain ⟨⟨-, hbw⟩, hc⟩ := TB
  obtain ⟨⟨p0, p1, p2, p3⟩, q0, q1, q2, q3⟩ := hc w2 (Below.refl _ _)
  have C0 := conv_any (hx.1.kept hbw).bys n x.k.c hn
  have C1 := conv_any (hy.1.kept hbw).bys n' y.k.c hn'
  have HLS := Lib.hid (less_bytes x.k.l y.k.l w2 hx.1.byt hy.1.byt l1 l2)
  have HW2 := Lib.hid hbw
  have HCC := Lib.hid hc
  clear ho hx hy hn hm hn' hm' hc hbw l1 l2
  obtain ⟨c, hc⟩ : ∃ c, cmpL x.k.l y.k.l = c := ⟨_, rfl⟩
  rw [hc] at HLS HO
  clear hc
  go_enter Try.func57, Try.ntmps57
  go_upto_region 2 with (go_at_call 80; refine HLS.out.mono ?_; rintro e w3 ⟨rfl, kk, hk3⟩; have W3 : Hid (Below w2.heap.size w2 w3) := Lib.hid (hk3 ▸ below_drewN (Below.refl _ _) kk); clear hk3)
  obtain ⟨⟨r0, r1, r2, r3⟩, s0, s1, s2, s3⟩ := HCC.out w3 W3.out
  have HE : Hid (Below w.heap.size w w3) := Lib.hid (HW2.out.trans (W3.out.mono HW2.out.size))
  clear p0 p1 p2 p3 q0 q1 q2 q3 C0 C1 HLS HCC
  by_cases h0 : c = 0
  · subst h0
    by_cases h1 : y.s < x.s
    · have d1 : decide (y.s < x.s) = true := decide_eq_true h1
      have HV : Hid (o = -1) := Lib.hid (by rw [← HO.out]; simp [h1])
      clear h1
      go_wp2_with fail
      go_ret
      exact ⟨by rw [HV.out]; try rfl, HE.out⟩
    · have d1 : decide (y.s < x.s) = false := decide_eq_false h1
      by_cases h2 : x.s < y.s
      · have d2 : decide (x.s < y.s) = true := decide_eq_true h2
        have HV : Hid (o = 1) := Lib.hid (by rw [← HO.out]; simp [h1, h2])
        clear h1 h2
        go_wp2_with fail
        go_ret
        exact ⟨by rw [HV.out]; try rfl, HE.out⟩
      · have d2 : decide (x.s < y.s) = false := decide_eq_false h2
        have HV : Hid (o = 0) := Lib.hid (by rw [← HO.out]; simp [h1, h2])
        clear h1 h2
        go_wp2_with fail
        go_ret
        exact ⟨by rw [HV.out]; try rfl, HE.out⟩
  · have d0 : (c == 0) = false := by simpa using h0
    have HV : Hid (o = c) := Lib.hid (by rw [← HO.out, if_pos h0])
    clear h0
    go_wp2_with fail
    go_ret
    exact ⟨by rw [HV.out]; try rfl, HE.out⟩
end Go.Proofs.Ytcffpkflijpdjaa
