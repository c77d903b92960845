/-
  Walks: pairs copied, pairs alike, by the document.
-/
import Derived.Test.YtimonpoeieenpaaKBb
namespace Go.Proofs.Ytimonpoeieenpaa
open Go.RowKit

/-- A literal of no bytes, as it lies. -/
def Lit0 (w : World) (g : Nat) : Prop := w.heap[g]? = some (.cells #[] 5 (0, 0))
theorem Lit0.new (w : World) (g : Nat) (h : g = w.heap.size) : Lit0 (w.alloc (.cells #[] 5)) g := by subst h; exact heap_alloc_new w _
theorem Lit0.drew {w : World} {g : Nat} (h : Lit0 w g) : Lit0 w.drew g := h
theorem Lit0.lt {w : World} {g : Nat} (h : Lit0 w g) : g < w.heap.size := (Array.getElem?_eq_some_iff.1 h).1
theorem Lit0.kept {w w' : World} {g : Nat} (h : Lit0 w g) (hb : Below w.heap.size w w') : Lit0 w' g := by
  unfold Lit0
  rw [hb.block g h.lt]
  exact h
theorem Lit0.alloc {w : World} {g : Nat} (h : Lit0 w g) (o : Obj) : Lit0 (w.alloc o) g := h.kept (below_new w o)
theorem Lit0.row {w : World} {g : Nat} (h : Lit0 w g) : Row w g (some ⟨g, 0, none⟩) 0 [] :=
  (Mine.of (Nat.le_refl _) h (Nat.le_refl _) (Nat.zero_le _) rfl rfl).row
theorem run_append_none {P : Program} (w : World) (t ty e : TypeId) (i : TypeInfo) (ht : P.underlying t = some (.slice e)) (hi : P.info? e = some i) (ad : Addr) (C : Option Addr) (cm : Nat) :
    (Builtin.append_ #[t, t] ty #[.slice (some ad) 0 0, .slice C 0 cm]).run P w = .ok (.slice (some ad) 0 0) w := by
  cases C <;> simp [Builtin.append_, run_underlying ht, sizeOf, typeInfo, hi, Builtin.lenOf, Builtin.firstCells, loadCells, loadCellsFrom, storeCells]
set_option maxRecDepth 100000 in
/-- An append onto a literal of no bytes: all that was there stays. -/
theorem run_append_zero (w : World) (ty : TypeId) (g : Nat) (M : List Int) (C : Option Addr) (cm : Nat) (h : Lit0 w g) (hm : Bys w C M) (hr : M.length ≤ 140737488355328) :
    ∃ A' c' w', (Builtin.append_ #[24, 24] ty #[.slice (some ⟨g, 0, none⟩) 0 0, .slice C M.length cm]).run Try.prog w = .ok (.slice A' M.length c') w' ∧ Row w' g A' c' M ∧ Below w.heap.size w w' := by
  obtain ⟨i, hi, hz0, hz1, hz2⟩ := info_parts info5
  obtain ⟨A', c', w', r, h2, h3, h4⟩ := run_append_grown (P := Try.prog) w 24 ty 5 i (.int .u8 0) 1 1 Try.underlying24 hi hz0 hz1 hz2 rfl (by decide) g (some ⟨g, 0, none⟩) 0 0 (vals []) h.row C M.length cm (vals M) (by simp [vals_len]) hm.lies vals_one (by unfold maxLen; omega) (by omega) (Nat.le_of_lt h.lt)
  rw [show vals [] ++ vals M = vals M from rfl, Nat.zero_add] at h2
  rw [Nat.zero_add] at r
  refine ⟨A', c', w', r, h2, ⟨h4.os, h4.tape, h4.output, h4.size, fun k hk => ?_⟩⟩
  by_cases e : k = g
  · subst e
    by_cases hM : M = []
    · subst hM
      have e2 := run_append_none (P := Try.prog) w 24 ty 5 i Try.underlying24 hi ⟨k, 0, none⟩ C cm
      rw [List.length_nil, e2] at r
      injection r with r1 r2
      rw [r2]
    · obtain ⟨ad, rfl, hc⟩ := hm.resolve_left hM
      have hpos : 0 < M.length := List.length_pos_iff.2 hM
      have hr := run_append_grow (P := Try.prog) w 24 ty 5 i (.int .u8 0) Try.underlying24 hi hz0 ⟨k, 0, none⟩ 0 0 [] (by simp) (fun j u hu => by simp at hu) ad M.length cm (vals M) (by rw [hz1, vals_len]; omega) (fun j u hu => by
        obtain ⟨x, e1, rfl⟩ := vals_get hu
        exact hc j x e1) (by omega) (by omega) (by rw [hz2, Nat.zero_add, nextslicecap_zero (by omega)]; omega)
      rw [hr] at r
      injection r with r1 r2
      rw [← r2]
      exact RowKit.Below.heap_alloc w.drew _ k hk
  · exact h4.block k hk (fun e' => e (by simpa [Value.ownBlock] using e'))
theorem step_append_zero (w : World) {ops : Array Oper} {o : Oper} {a : Act} {K : Act → World → Prop} {Q : Exit → Act → World → Prop} {E : Prop} (hgd : o.guard = none) (s x : Operand)
    (ho : o.op = .call { callee := .builtin .append, args := #[s, x], argTypes := #[24, 24] })
    (g : Nat) (M : List Int) (C : Option Addr) (m cm : Nat) (hs : a.eval s = .slice (some ⟨g, 0, none⟩) 0 0) (hx : a.eval x = .slice C m cm) (em : M.length = m) (h : Lit0 w g) (hm : Bys w C M) (hr : M.length ≤ 140737488355328)
    (k : ∀ A' c' w', Row w' g A' c' M → Below w.heap.size w w' → K (a.put o.dst (.slice A' m c')) w') : if Region.wanted o (yielded ops a.tmps) = true then Oper.wp Try.prog o a w K Q else E := by
  have hw : Region.wanted o (yielded ops a.tmps) = true := by simp [Region.wanted, hgd]
  rw [if_pos hw]
  subst em
  obtain ⟨A', c', w', r, h2, h3⟩ := run_append_zero w o.type g M C cm h hm hr
  have k' := k A' c' w' h2 h3
  unfold Oper.wp execOp
  simp only [ho, resolve, invoke, builtin, Sem.run_bind, Sem.run_pure, Result.andThen_ok, List.map_toArray, List.map_cons, List.map_nil, hs, hx, r]
  exact k'

theorem drew_size (w : World) : w.drew.heap.size = w.heap.size := rfl
theorem below_al {a w : World} (h : Below a.heap.size a w) (o : Obj) : Below a.heap.size a (w.alloc o) := h.alloc h.size o
set_option maxRecDepth 100000 in
set_option maxHeartbeats 4000000 in
theorem refCopy_any (A : Option Addr) (l : List Bp) (n c : Nat) (w : World) (hn : l.length = n) (h : Lies w A (pvals l)) (hi : Ins w l) (hl : n * 48 ≤ 140737488351232) (hs : ∀ q ∈ l, q.k.l.length ≤ 140737488351232 ∧ q.v.l.length ≤ 140737488351232) :
    Calls Try.prog 9 #[.slice A n c] w (Copied w l) := by
  have HP := Lib.hid (fun (w' : World) (hb : Below w.heap.size w w') => h.kept hb)
  have HI := Lib.hid (fun (w' : World) (hb : Below w.heap.size w w') => hi.kept hb)
  have HS := Lib.hid hs
  have HN := Lib.hid hn
  clear h hn hi hs
  go_enter Try.func9, Try.ntmps9
  go_wp2_with fail
  go_loopw [3, 7] (fun t3 t7 wr => ∃ (k : Nat) (A2 : Option Addr) (c2 : Nat) (l' : List Bp), k ≤ n ∧ t7 = .int .i64 k ∧ t3 = .slice A2 k c2 ∧ Hid (l'.length = k) ∧ Hid (rds l' = (rds l).take k) ∧ Hid (Mades wr w.heap.size l') ∧ Hid (Prow wr w.heap.size A2 c2 l') ∧ Hid (Below w.heap.size w wr)) (fun _ t7 _ => n - (intOf t7).toNat)
  case atStart => exact ⟨0, none, 0, [], by omega, rfl, rfl, Lib.hid rfl, Lib.hid rfl, Lib.hid (Mades.nil _ _), Lib.hid (Prow.nil _ _), Lib.hid (Below.refl _ _)⟩
  case round =>
    obtain ⟨k, A2, c2, l', hk, rfl, rfl, hl2, hr, hm, r2, b2⟩ := hrel
    by_cases hlt : k < n
    · have hq := List.getElem?_eq_getElem (l := l) (i := k) (by have := HN.out; omega)
      generalize l[k]'(by have := HN.out; omega) = x at hq
      obtain ⟨ad, rfl, a0, a1⟩ := lies_pair (HP.out _ b2.out) hq
      have HA := Lib.hid (fun (w' : World) (hb : Below w.heap.size w w') => lies_pair_at (HP.out w' hb) hq)
      have HX := Lib.hid (fun (w' : World) (hb : Below w.heap.size w w') => (HI.out w' hb) x (List.mem_of_getElem? hq))
      have HL := Lib.hid (HS.out x (List.mem_of_getElem? hq))
      have HQ := Lib.hid (rds_get hq)
      clear hq
      have CB := Lib.hid b2.out
      have WS : Hid (w.heap.size ≤ wr.heap.size) := Lib.hid b2.out.size
      obtain ⟨⟨ka, kc, kl⟩, ⟨va, vc, vl⟩⟩ := x
      obtain ⟨m, hm2⟩ : ∃ m, kl.length = m := ⟨_, rfl⟩
      obtain ⟨z, hz2⟩ : ∃ z, vl.length = z := ⟨_, rfl⟩
      simp only at a0 a1 HX HL
      rw [hm2] at a0 HX HL
      rw [hz2] at a1 HX HL
      have HM2 := Lib.hid (And.intro hm2 hz2)
      clear hm2 hz2
      have HA2 : Hid (∀ w' : World, Below wr.heap.size wr w' → w'.cell? (ad.add (k * 2)) = some (.slice ka m kc) ∧ w'.cell? ⟨(ad.add (k * 2)).block, (ad.add (k * 2)).off + 1, none⟩ = some (.slice va z vc)) := Lib.hid (fun w' hb => by
        have := HA.out w' (CB.out.trans (hb.mono WS.out))
        unfold AtP at this
        simp only [HM2.out.1, HM2.out.2] at this
        exact this)
      have HX2 : Hid (∀ w' : World, Below wr.heap.size wr w' → Bys w' ka kl ∧ Bys w' va vl) := Lib.hid (fun w' hb => by
        have := HX.out w' (CB.out.trans (hb.mono WS.out))
        exact ⟨this.1.bys, this.2.bys⟩)
      have HA3 : Hid (∀ w' : World, Below w.heap.size w w' → w'.cell? (ad.add (k * 2)) = some (.slice ka m kc) ∧ w'.cell? ⟨(ad.add (k * 2)).block, (ad.add (k * 2)).off + 1, none⟩ = some (.slice va z vc)) := Lib.hid (fun w' hb => by
        have := HA.out w' hb
        unfold AtP at this
        simp only [HM2.out.1, HM2.out.2] at this
        exact this)
      clear HA HX
      have BB := Lib.hid (Below.refl wr.heap.size wr)
      have T1 := Lib.hid trivial
      have T2 := Lib.hid trivial
      go_upto_region 5 with fail
      go_region_held3 (fun w' => w'.cell? (ad.add (k * 2)) = some (.slice ka m kc) ∧ w'.cell? ⟨(ad.add (k * 2)).block, (ad.add (k * 2)).off + 1, none⟩ = some (.slice va z vc)) (first | exact HA3.out _ CB.out | (refine HA2.out _ ?_; (repeat (first | with_reducible exact BB.out | with_reducible exact Below.refl _ _ | with_reducible refine Below.drew ?_ | with_reducible refine below_al ?_ _)); done) | go_keep) (first
        | (have t1 := T1; refine step_append_zero _ (by rfl) (.tmp 11) (.tmp 16) (by rfl) _ kl ka m kc rfl rfl HM2.out.1 ?_ ?_ ?_ ?_; (repeat (first | ((with_reducible refine Lit0.new _ _ ?_); first | (with_reducible rfl) | (focus (simp only [World.size_alloc]; done))) | with_reducible refine Lit0.drew ?_ | with_reducible refine Lit0.alloc ?_ _)); (refine (HX2.out _ ?_).1; (repeat (first | with_reducible exact BB.out | with_reducible exact Below.refl _ _ | with_reducible refine Below.drew ?_ | with_reducible refine below_al ?_ _))); (have := HL.out; have := HM2.out; omega); intro A6 c6 w6 r6 b6; have R6 : Hid (Row w6 w.heap.size A6 c6 kl) := Lib.hid (r6.mono (by have := WS.out; first | omega | (simp; omega) | (simp only [drew_size, World.size_alloc]; omega))); have LK := Lib.hid (fun g (h : Lit0 _ g) => h.kept b6); have BB : Hid (Below wr.heap.size wr w6) := Lib.hid (below_then (by repeat (first | with_reducible exact BB.out | with_reducible exact Below.refl _ _ | with_reducible refine Below.drew ?_ | with_reducible refine below_al ?_ _)) b6); clear r6 b6 T1 t1)
        | (have t2 := T2; refine step_append_zero _ (by rfl) (.tmp 18) (.tmp 23) (by rfl) _ vl va z vc rfl rfl HM2.out.2 ?_ ?_ ?_ ?_; (repeat (first | ((with_reducible refine Lit0.new _ _ ?_); first | (with_reducible rfl) | (focus (simp only [World.size_alloc]; done))) | with_reducible refine Lit0.drew ?_ | with_reducible refine Lit0.alloc ?_ _ | with_reducible refine LK.out _ ?_)); (refine (HX2.out _ ?_).2; (repeat (first | with_reducible exact BB.out | with_reducible exact Below.refl _ _ | with_reducible refine Below.drew ?_ | with_reducible refine below_al ?_ _))); (have := HL.out; have := HM2.out; omega); intro A7 c7 w7 r7 b7; have R7 : Hid (Row w7 w.heap.size A7 c7 vl) := Lib.hid (r7.mono (by have := WS.out; have := BB.out.size; first | omega | (simp; omega) | (simp only [drew_size, World.size_alloc]; omega))); have R6 : Hid (Row w7 w.heap.size A6 c6 kl) := Lib.hid (R6.out.kept (below_then (by repeat (first | with_reducible exact Below.refl _ _ | with_reducible refine Below.drew ?_ | with_reducible refine below_al ?_ _)) b7) (Nat.le_refl _)); have BB : Hid (Below wr.heap.size wr w7) := Lib.hid (below_then (by repeat (first | with_reducible exact BB.out | with_reducible exact Below.refl _ _ | with_reducible refine Below.drew ?_ | with_reducible refine below_al ?_ _)) b7); clear r7 b7 LK T2 t2)
        | (refine step_append_prow _ (by rfl) (.tmp 10) (.tmp 26) (by rfl) w.heap.size A2 c2 l' [⟨⟨A6, c6, kl⟩, ⟨A7, c7, vl⟩⟩] _ k 1 1 rfl rfl hl2.out rfl ?_ ?_ ?_ ?_ ?_; (refine r2.out.kept ?_ (Nat.le_refl _); (repeat (first | with_reducible exact BB.out | with_reducible exact Below.refl _ _ | with_reducible refine Below.drew ?_ | with_reducible refine below_al ?_ _))); (refine lit_pair _ A6 A7 c6 c7 kl vl m z HM2.out.1 HM2.out.2); (have := WS.out; have := BB.out.size; first | omega | (simp; omega) | (simp only [drew_size, World.size_alloc]; omega)); (have := hl2.out; simp only [List.length_singleton]; omega); intro A8 c8 w8 r8 b8 g8; have R8 := Lib.hid r8; have CM : Hid (Mades w8 w.heap.size l') := Lib.hid (by have g := g8; rw [← hl2.out] at g; refine Mades.besideP (D := w.heap.size) ?_ ?_ g; (refine hm.out.kept ?_ (Nat.le_refl _); (repeat (first | with_reducible exact BB.out | with_reducible exact Below.refl _ _ | with_reducible refine Below.drew ?_ | with_reducible refine below_al ?_ _))); (refine r2.out.kept ?_ (Nat.le_refl _); (repeat (first | with_reducible exact BB.out | with_reducible exact Below.refl _ _ | with_reducible refine Below.drew ?_ | with_reducible refine below_al ?_ _)))); have R6 : Hid (Row w8 w.heap.size A6 c6 kl) := Lib.hid (by have g := g8; rw [← hl2.out] at g; refine Row.besideP (D := w.heap.size) ?_ ?_ g; (exact R6.out.alloc _); (refine r2.out.kept ?_ (Nat.le_refl _); (repeat (first | with_reducible exact BB.out | with_reducible exact Below.refl _ _ | with_reducible refine Below.drew ?_ | with_reducible refine below_al ?_ _)))); have R7 : Hid (Row w8 w.heap.size A7 c7 vl) := Lib.hid (by have g := g8; rw [← hl2.out] at g; refine Row.besideP (D := w.heap.size) ?_ ?_ g; (exact R7.out.alloc _); (refine r2.out.kept ?_ (Nat.le_refl _); (repeat (first | with_reducible exact BB.out | with_reducible exact Below.refl _ _ | with_reducible refine Below.drew ?_ | with_reducible refine below_al ?_ _)))); have CB : Hid (Below w.heap.size w w8) := Lib.hid ((CB.out.trans ((by repeat (first | with_reducible exact BB.out | with_reducible exact Below.refl _ _ | with_reducible refine Below.drew ?_ | with_reducible refine below_al ?_ _) : Below wr.heap.size wr _).mono WS.out)).trans b8); clear r8 b8 g8))
      all_goals
        go_wp2_with fail
        go_roundw
        case rel => exact ⟨k + 1, A8, c8, l' ++ [⟨⟨A6, c6, kl⟩, ⟨A7, c7, vl⟩⟩], by omega, by go_num, rfl, Lib.hid (by rw [List.length_append, hl2.out]; rfl), Lib.hid (by rw [rds_append, hr.out, List.take_add_one, HQ.out]; rfl), Lib.hid (CM.out.snoc R6.out R7.out), Lib.hid R8.out, CB⟩
        case measure => simp [intOf]; omega
    · obtain rfl : k = n := by omega
      have hr' := hr.out
      rw [List.take_of_length_le (by rw [rds_len]; have := HN.out; omega)] at hr'
      have HR := Lib.hid hr'
      clear hr'
      go_wp2_with fail
      go_ret
      exact ⟨l', _, _, HR.out, ret_slice hl2.out.symm, hm.out, r2.out, b2.out⟩

end Go.Proofs.Ytimonpoeieenpaa
