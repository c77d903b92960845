/-
  Memory: answers that are marked, beside both disks; what the law lays at its start, in whatever order.
-/
import Derived.Test.YtjacjafpeajhaaaPxF
import Derived.Deep.DeepAppendRoom
namespace Go.Proofs.Ytjacjafpeajhaaa
open Go.RowKit
open Go.Maps

/-- Bytes that may be marked, in blocks from B to E. -/
def Spot (B E : Nat) (w : World) (A : Option Addr) (z : Nat) : Prop := z = 0 ∨ ∃ g cur, A = some ⟨g, 0, none⟩ ∧ B ≤ g ∧ g < E ∧ w.heap[g]? = some (.cells cur 5 (0, 0)) ∧ z ≤ cur.size ∧ ∀ j, j < z → ∃ x, cur[j]? = some (.int .u8 x)
theorem Row.spot {B : Nat} {w : World} {A : Option Addr} {c : Nat} {L : List Int} (h : Row w B A c L) : Spot B w.heap.size w A L.length := by
  rcases h.2 with ⟨_, h0⟩ | ⟨g, cap, cur, e, h1, h2, h3, h4, h5, h6⟩
  · exact .inl h0
  · injection e with e1 e2 e3
    subst e1
    refine .inr ⟨g, cur, rfl, h1, (Array.getElem?_eq_some_iff.1 h2).1, h2, by omega, fun j hj => ?_⟩
    have h7 : (vals L)[j]? = some (.int .u8 L[j]) := vals_of (List.getElem?_eq_getElem hj)
    rw [← h6, List.getElem?_take] at h7
    split at h7
    · exact ⟨L[j], by rw [← h7]; simp⟩
    · cases h7
theorem Spot.of {B E : Nat} {w w' : World} {A : Option Addr} {z : Nat} (h : Spot B E w A z) (hb : ∀ k, B ≤ k → k < E → w'.heap[k]? = w.heap[k]?) : Spot B E w' A z := by
  rcases h with h | ⟨g, cur, e, h1, h2, h3, h4⟩
  · exact .inl h
  · exact .inr ⟨g, cur, e, h1, h2, by rw [hb g h1 h2, h3], h4⟩
theorem Spot.kept {B E F : Nat} {w w' : World} {A : Option Addr} {z : Nat} (h : Spot B E w A z) (hb : Below F w w') (hF : E ≤ F) : Spot B E w' A z := h.of (fun k _ hk => hb.block k (by omega))
theorem Spot.set {B E : Nat} {w : World} {A : Option Addr} {z g k : Nat} {y : Int} {cur : Array Value} (h : Spot B E w A z) (_hg : w.heap[g]? = some (.cells cur 5 (0, 0))) : Spot B E (w.setCell ⟨g, k, none⟩ (.int .u8 y)) A z := by
  rcases h with h | ⟨g', cur', e, h1, h2, h3, h4, h5⟩
  · exact .inl h
  · by_cases hgg : g' = g
    · subst hgg
      refine .inr ⟨g', cur'.setIfInBounds k (.int .u8 y), e, h1, h2, ?_, by simpa using h4, fun j hj => ?_⟩
      · simp [World.setCell, Array.getElem?_modify, h3]
      · obtain ⟨x, hx⟩ := h5 j hj
        by_cases hjk : k = j
        · subst hjk
          exact ⟨y, by rw [Array.getElem?_setIfInBounds_self_of_lt (by omega)]⟩
        · exact ⟨x, by rw [Array.getElem?_setIfInBounds_ne hjk, hx]⟩
    · refine .inr ⟨g', cur', e, h1, h2, ?_, h4, h5⟩
      rw [Below.heap_setCell w ⟨g, k, none⟩ _ g' hgg, h3]

/-- While files' bytes are marked, in blocks from S to E: the files stand, their bytes are bytes, all else is as it was. -/
structure Mf (S E : Nat) (w0 : World) (A : Option Addr) (c : Nat) (T : List Fl) (w : World) : Prop where
  row : Frow w S A c T
  spots : ∀ q ∈ T, Spot S E w q.d.a q.d.l.length
  kp : Kp (fun b => b < S ∨ E ≤ b) w0 w
theorem Mf.mark {S E : Nat} {w0 w : World} {A : Option Addr} {c k : Nat} {T : List Fl} {q : Fl} (h : Mf S E w0 A c T w) (hq : q ∈ T) (hk : k < q.d.l.length) :
    ∃ g x, q.d.a = some ⟨g, 0, none⟩ ∧ w.cell? ⟨g, k, none⟩ = some (.int .u8 x) ∧ w.frozen? ⟨g, k, none⟩ = false ∧ ∀ y, Mf S E w0 A c T (w.setCell ⟨g, k, none⟩ (.int .u8 y)) := by
  obtain ⟨g, cur, e, h1, h2, h3, h4, h5⟩ := (h.spots q hq).resolve_left (by omega)
  obtain ⟨x, hx⟩ := h5 k hk
  refine ⟨g, x, e, by simp [World.cell?, h3, hx], by simp [World.frozen?, h3], fun y => ⟨?_, fun r hr => (h.spots r hr).set h3, h.kp.set g k _ (fun hn => by omega)⟩⟩
  refine ⟨h.row.1, ?_⟩
  rcases h.row.2 with hn | ⟨g', cap, cur', e1, k1, k2, k3⟩
  · exact .inl hn
  · refine .inr ⟨g', cap, cur', e1, k1, ?_, k3⟩
    rw [Below.heap_setCell w ⟨g, k, none⟩ _ g' ?_, k2]
    intro e
    have e' : g' = g := e
    subst e'
    rw [h3] at k2
    injection k2 with k2
    injection k2 with _ k2
    exact absurd k2 (by decide)
theorem Mf.drew {S E : Nat} {w0 w : World} {A : Option Addr} {c : Nat} {T : List Fl} (h : Mf S E w0 A c T w) : Mf S E w0 A c T w.drew := ⟨h.row, h.spots, ⟨h.kp.os, h.kp.tape, h.kp.output, h.kp.size, h.kp.block⟩⟩
theorem Kp.trans {S : Nat → Prop} {a b c : World} (h : Kp S a b) (k : Kp S b c) : Kp S a c := ⟨k.os.trans h.os, k.tape.trans h.tape, k.output.trans h.output, Nat.le_trans h.size k.size, fun x hx => (k.block x hx).trans (h.block x hx)⟩
theorem Kp.mono {S S' : Nat → Prop} {a b : World} (h : Kp S a b) (hS : ∀ k, S' k → S k) : Kp S' a b := ⟨h.os, h.tape, h.output, h.size, fun x hx => h.block x (hS x hx)⟩
theorem Kp.drew {S : Nat → Prop} {a b : World} (h : Kp S a b) : Kp S a b.drew := ⟨h.os, h.tape, h.output, h.size, h.block⟩
/-- Both disks stand while what is theirs does. -/
theorem Twin.kp {w w' : World} {B C W0 g e : Nat} {p : Pk} {d : Dk} {keep : List Int} {k S : Nat} {NS : Nat → Prop} (h : Twin w B C W0 g e p d keep k S) (hk : Kp NS w w') (hlow : ∀ x, x < W0 → NS x) (hB : ∀ x, B ≤ x → NS x) (hC : ∀ x, C ≤ x → NS x) : Twin w' B C W0 g e p d keep k S :=
  ⟨h.ps.of (fun x hx => hk.block x (hB x (h.ps.owned x hx).1)), h.rs.of (fun x hx => hk.block x (hC x (h.rs.owned x hx).1)), h.lowB, h.lowC, h.off, h.alike, h.kl, h.kints.lowE (hk.below hlow) h.kB, h.kB, h.ki, h.kfew, h.few, h.sum, h.names, h.sane, h.done⟩

/-- One place of a row of numbers. -/
theorem irow_at {w : World} {B : Nat} {A : Option Addr} {c k : Nat} {L : List Int} (h : Irow w B A c L) (hk : k < L.length) : ∃ g, A = some ⟨g, 0, none⟩ ∧ w.frozen? ⟨g, k, none⟩ = false ∧ (∃ v, w.cell? ⟨g, k, none⟩ = some (.int .i64 v)) ∧ ∀ u, Irow (w.setCell ⟨g, k, none⟩ (.int .i64 u)) B A c (L.set k u) := by
  have h' := h
  rcases h.2 with ⟨_, h0⟩ | ⟨g, cap, cur, e, h1, h2, h3, h4, h5, h6⟩
  · omega
  · injection e with e1 e2 e3
    subst e1
    subst e3
    have h7 : (ivals L)[k]? = some (.int .i64 L[k]) := by simp [ivals, hk]
    refine ⟨g, rfl, by simp [World.frozen?, h2], ⟨L[k], ?_⟩, fun u => ?_⟩
    · have := World.ownsRow.cells h' (g := g) rfl k _ h7
      rwa [add_head] at this
    · refine ⟨by simp [ivals], .inr ⟨g, c, cur.setIfInBounds k (.int .i64 u), ?_, h1, ?_, by simpa using h3, h4, by simpa using h5, ?_⟩⟩
      · rw [List.length_set]
      · simp [World.setCell, Array.getElem?_modify, h2]
      · rw [List.length_set] at *
        have e9 : (ivals (L.set k u)) = (ivals L).set k (.int .i64 u) := by simp [ivals, List.map_set]
        rw [e9, ← h6, Array.toList_setIfInBounds, List.take_set]

/-- A literal of no bytes, as it lies. -/
def Lit0 (w : World) (g : Nat) : Prop := w.heap[g]? = some (.cells #[] 5 (0, 0))
theorem Lit0.lt {w : World} {g : Nat} (h : Lit0 w g) : g < w.heap.size := (Array.getElem?_eq_some_iff.1 h).1
theorem Lit0.kept {w w' : World} {g : Nat} (h : Lit0 w g) (hb : Below w.heap.size w w') : Lit0 w' g := by
  unfold Lit0
  rw [hb.block g h.lt]
  exact h
theorem Lit0.row {w : World} {g : Nat} (h : Lit0 w g) : Row w g (some ⟨g, 0, none⟩) 0 [] :=
  (Mine.of (Nat.le_refl _) h (Nat.le_refl _) (Nat.zero_le _) rfl rfl).row
theorem run_append_none {P : Program} (w : World) (t ty e : TypeId) (i : TypeInfo) (ht : P.underlying t = some (.slice e)) (hi : P.info? e = some i) (ad : Addr) (C : Option Addr) (cm : Nat) :
    (Builtin.append_ #[t, t] ty #[.slice (some ad) 0 0, .slice C 0 cm]).run P w = .ok (.slice (some ad) 0 0) w := by
  cases C <;> simp [Builtin.append_, run_underlying ht, sizeOf, typeInfo, hi, Builtin.lenOf, Builtin.firstCells, loadCells, loadCellsFrom, storeCells]
set_option maxRecDepth 100000 in
/-- An append onto a literal of no bytes: all that was there stays; where the answer lies. -/
theorem run_append_zero (w : World) (ty : TypeId) (g : Nat) (M : List Int) (C : Option Addr) (cm : Nat) (h : Lit0 w g) (hm : Bys w C M) (hr : M.length ≤ 140737488355328) :
    ∃ A' c' w', (Builtin.append_ #[38, 38] ty #[.slice (some ⟨g, 0, none⟩) 0 0, .slice C M.length cm]).run Try.prog w = .ok (.slice A' M.length c') w' ∧ Row w' g A' c' M ∧ Below w.heap.size w w' ∧ ∀ ad, A' = some ad → ad.block = g ∨ w.heap.size ≤ ad.block := by
  obtain ⟨i, hi, hz0, hz1, hz2⟩ := info_parts info5
  obtain ⟨A', c', w', r, h2, h3, h4⟩ := run_append_grown (P := Try.prog) w 38 ty 5 i (.int .u8 0) 1 1 Try.underlying38 hi hz0 hz1 hz2 rfl (by decide) g (some ⟨g, 0, none⟩) 0 0 (vals []) h.row C M.length cm (vals M) (by simp [vals_len]) hm.lies vals_one (by unfold maxLen; omega) (by omega) (Nat.le_of_lt h.lt)
  rw [show vals [] ++ vals M = vals M from rfl, Nat.zero_add] at h2
  rw [Nat.zero_add] at r
  by_cases hM : M = []
  · subst hM
    have e2 := run_append_none (P := Try.prog) w 38 ty 5 i Try.underlying38 hi ⟨g, 0, none⟩ C cm
    rw [List.length_nil] at r ⊢
    rw [e2] at r
    injection r with r1 r2
    injection r1 with r1 _ r3
    subst r1
    subst r2
    subst r3
    exact ⟨_, _, _, e2, h2, Below.refl _ _, fun ad e => .inl (by injection e with e; rw [← e])⟩
  · obtain ⟨ad, rfl, hc⟩ := hm.resolve_left hM
    have hpos : 0 < M.length := List.length_pos_iff.2 hM
    have hr := run_append_grow (P := Try.prog) w 38 ty 5 i (.int .u8 0) Try.underlying38 hi hz0 ⟨g, 0, none⟩ 0 0 [] (by simp) (fun j u hu => by simp at hu) ad M.length cm (vals M) (by rw [hz1, vals_len]; omega) (fun j u hu => by
        obtain ⟨x, e1, rfl⟩ := vals_get hu
        exact hc j x e1) (by omega) (by omega) (by rw [hz2, Nat.zero_add, nextslicecap_zero (by omega)]; omega)
    have r' := r
    rw [hr] at r'
    injection r' with r1 r2
    injection r1 with r1
    refine ⟨A', c', w', r, h2, ⟨h4.os, h4.tape, h4.output, h4.size, fun k hk => ?_⟩, fun ad e => .inr ?_⟩
    · rw [← r2]
      exact RowKit.Below.heap_alloc w.drew _ k hk
    · rw [← r1] at e
      injection e with e
      rw [← e]
      exact Nat.le_refl _
/-- One byte more: the row stays in its block, or lies in a new one. -/
theorem brow_place (w : World) (ty : TypeId) (B : Nat) (A : Option Addr) (c : Nat) (T : List Int) (v : Int) (C : Option Addr) (cm : Nat) (h : Row w B A c T) (hm : Bys w C [v]) (hB : B ≤ w.heap.size) (hr : T.length + 1 ≤ 140737488355328) :
    ∃ A' c' w', (Builtin.append_ #[38, 38] ty #[.slice A T.length c, .slice C 1 cm]).run Try.prog w = .ok (.slice A' (T.length + 1) c') w' ∧ Row w' B A' c' (T ++ [v]) ∧ w.grownBy w' (Value.slice A T.length c).ownBlock ∧ Below B w w' ∧ ∀ ad, A' = some ad → (∃ a0, A = some a0 ∧ ad.block = a0.block) ∨ w.heap.size ≤ ad.block := by
  obtain ⟨i, hi, hz0, hz1, hz2⟩ := info_parts info5
  have hm' := hm.lies
  obtain ⟨A', c', w', r, h2, h3, h4⟩ := run_append_grown (P := Try.prog) w 38 ty 5 i (.int .u8 0) 1 1 Try.underlying38 hi hz0 hz1 hz2 rfl (by decide) B A T.length c (vals T) h C 1 cm (vals [v]) rfl hm' vals_one (by unfold maxLen; omega) (by omega) hB
  have e : vals T ++ vals [v] = vals (T ++ [v]) := by simp [vals]
  rw [e] at h2
  refine ⟨A', c', w', r, by unfold Row; rw [List.length_append]; exact h2, h4, h3, fun ad ha => ?_⟩
  obtain ⟨cd, rfl, hc⟩ := hm'.resolve_left (by simp [vals])
  rcases h.2 with ⟨hv, h0⟩ | ⟨g, cap, cur, hv, hbg, hg, hnc, hcm, hcs, htake⟩
  · injection hv with e1 e2 e3
    subst e1
    subst e3
    have hr := run_append_nil (P := Try.prog) w 38 ty 5 i (.int .u8 0) Try.underlying38 hi hz0 cd 1 cm (vals [v]) (by rw [hz1]; rfl) hc (by decide) (by decide) (by rw [hz2]; decide)
    rw [e2, hr] at r
    injection r with r1 r2
    injection r1 with r1
    rw [ha] at r1
    injection r1 with r1
    rw [← r1]
    exact .inr (Nat.le_refl _)
  · injection hv with e1 e2 e3
    subst e1
    subst e3
    by_cases hroom : T.length + 1 ≤ c
    · obtain ⟨w2, hr, -, -⟩ := run_append_own_spare (P := Try.prog) w B 38 ty 5 i 1 Try.underlying38 hi hz1 g T.length c (vals T) h cd 1 cm (vals [v]) rfl hc vals_one hroom
      rw [hr] at r
      injection r with r1 r2
      injection r1 with r1
      rw [ha] at r1
      injection r1 with r1
      exact .inl ⟨_, rfl, by rw [← r1]⟩
    · have hr := run_append_grow (P := Try.prog) w 38 ty 5 i (.int .u8 0) Try.underlying38 hi hz0 ⟨g, 0, none⟩ T.length c (vals T) (by rw [hz1]; simp [vals]) (World.ownsRow.cells h (g := g) rfl) cd 1 cm (vals [v]) (by rw [hz1]; rfl) hc (by omega) (by omega) (by rw [hz2]; exact growslice_fits (by omega) (by omega))
      rw [hr] at r
      injection r with r1 r2
      injection r1 with r1
      rw [ha] at r1
      injection r1 with r1
      rw [← r1]
      exact .inr (Nat.le_refl _)
theorem step_append_zero (w : World) {ops : Array Oper} {o : Oper} {a : Act} {K : Act → World → Prop} {Q : Exit → Act → World → Prop} {E : Prop} (hgd : o.guard = none) (s x : Operand)
    (ho : o.op = .call { callee := .builtin .append, args := #[s, x], argTypes := #[38, 38] })
    (g : Nat) (M : List Int) (C : Option Addr) (m cm : Nat) (hs : a.eval s = .slice (some ⟨g, 0, none⟩) 0 0) (hx : a.eval x = .slice C m cm) (em : M.length = m) (h : Lit0 w g) (hm : Bys w C M) (hr : M.length ≤ 140737488355328)
    (k : ∀ A' c' w', Row w' g A' c' M → Below w.heap.size w w' → (∀ ad, A' = some ad → ad.block = g ∨ w.heap.size ≤ ad.block) → K (a.put o.dst (.slice A' m c')) w') : if Region.wanted o (yielded ops a.tmps) = true then Oper.wp Try.prog o a w K Q else E := by
  have hw : Region.wanted o (yielded ops a.tmps) = true := by simp [Region.wanted, hgd]
  rw [if_pos hw]
  subst em
  obtain ⟨A', c', w', r, h2, h3, h4⟩ := run_append_zero w o.type g M C cm h hm hr
  have k' := k A' c' w' h2 h3 h4
  unfold Oper.wp execOp
  simp only [ho, resolve, invoke, builtin, Sem.run_bind, Sem.run_pure, Result.andThen_ok, List.map_toArray, List.map_cons, List.map_nil, hs, hx, r]
  exact k'
theorem step_append_place (w : World) {ops : Array Oper} {o : Oper} {a : Act} {K : Act → World → Prop} {Q : Exit → Act → World → Prop} {E : Prop} (hgd : o.guard = none) (s x : Operand)
    (ho : o.op = .call { callee := .builtin .append, args := #[s, x], argTypes := #[38, 38] })
    (B : Nat) (A : Option Addr) (c : Nat) (T : List Int) (v : Int) (C : Option Addr) (n cm : Nat) (hs : a.eval s = .slice A n c) (hx : a.eval x = .slice C 1 cm) (en : T.length = n) (h : Row w B A c T) (hm : Bys w C [v]) (hB : B ≤ w.heap.size) (hr : T.length + 1 ≤ 140737488355328)
    (k : ∀ A' c' w', Row w' B A' c' (T ++ [v]) → w.grownBy w' (Value.slice A n c).ownBlock → Below B w w' → (∀ ad, A' = some ad → (∃ a0, A = some a0 ∧ ad.block = a0.block) ∨ w.heap.size ≤ ad.block) → K (a.put o.dst (.slice A' (n + 1) c')) w') : if Region.wanted o (yielded ops a.tmps) = true then Oper.wp Try.prog o a w K Q else E := by
  have hw : Region.wanted o (yielded ops a.tmps) = true := by simp [Region.wanted, hgd]
  rw [if_pos hw]
  subst en
  obtain ⟨A', c', w', r, h2, h3, h4, h5⟩ := brow_place w o.type B A c T v C cm h hm hB hr
  have k' := k A' c' w' h2 h3 h4 h5
  unfold Oper.wp execOp
  simp only [ho, resolve, invoke, builtin, Sem.run_bind, Sem.run_pure, Result.andThen_ok, List.map_toArray, List.map_cons, List.map_nil, hs, hx, r]
  exact k'

theorem row_place {w : World} {B c k : Nat} {A : Option Addr} {L : List Int} {x : Int} (h : Row w B A c L) (hx : L[k]? = some x) : ∃ ad, A = some ad ∧ w.cell? (ad.add k) = some (.int .u8 x) := by
  rcases h.lies with e | ⟨ad, e, hc⟩
  · rw [e] at hx
    simp at hx
  · exact ⟨ad, e, hc k x hx⟩

/-- A region in whatever order: what holds at each of its stands. -/
theorem wpAnyH_inv {P : Program} {ops : Array Oper} {Q : Exit → Act → World → Prop} {md : Region.Mode} {S : World → Prop} (I : Nat → Array Bool → Act → World → Prop)
    (h0 : ∀ listed a w, ¬ I 0 listed a w) (hs : ∀ fuel listed a w, (∀ listed' a' w', I fuel listed' a' w' → wpAnyH P md ops Q S fuel listed' a' w') → I (fuel + 1) listed a w → wpAnyH P md ops Q S (fuel + 1) listed a w) :
    ∀ (fuel : Nat) (listed : Array Bool) (a : Act) (w : World), I fuel listed a w → wpAnyH P md ops Q S fuel listed a w
  | 0, listed, a, w, h => absurd h (h0 listed a w)
  | fuel + 1, listed, a, w, h => hs fuel listed a w (fun l' a' w' h' => wpAnyH_inv I h0 hs fuel l' a' w' h') h

end Go.Proofs.Ytjacjafpeajhaaa
