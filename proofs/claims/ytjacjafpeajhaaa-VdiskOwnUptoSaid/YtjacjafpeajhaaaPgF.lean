/-
  Walks: a file taken out of the map; copies of bytes and of numbers.
-/
import Derived.Test.YtjacjafpeajhaaaPgE
import Derived.Lib.BufferMore
namespace Go.Proofs.Ytjacjafpeajhaaa
open Go.RowKit
open Go.Maps

/-- A file taken away, if it is there. -/
def takeP (p : Pk) (s : ByteArray) : Pk := match findP s p.l with
  | none => p
  | some q => { p with l := delP s p.l, size := wrap64 (p.size - q.d.l.length) }
theorem PSt.take_end {w W w5 : World} {B g : Nat} {p : Pk} {q : Pf} {s : ByteArray} (h : PSt w B g p) (hf : findP s p.l = some q) (hk : PkAt W g { p with size := wrap64 (p.size - q.d.l.length) }) (hd : Does (Two g p.b) (Two g p.b) w W)
    (hm : w5.ownsMap Try.prog 9 ptrElem p.b p.l.length ((Dm p.l).del (kOf s))) (hg : W.grownBy w5 (some p.b)) : PSt w5 B g (takeP p s) ∧ Does (Two g p.b) (Two g p.b) w w5 := by
  have hD : Does (Two g p.b) (Two g p.b) w w5 := hd.trans (Does.of_grown hg (.inr rfl))
  have hne : some g ≠ some p.b := fun e => by injection e with e; exact h.not_inner (e ▸ .inl rfl)
  obtain ⟨hq, hs⟩ := findP_mem hf
  have hb := h.inn.not_map
  have hgi := h.not_inner
  have e : takeP p s = { p with l := delP s p.l, size := wrap64 (p.size - q.d.l.length) } := by unfold takeP; rw [hf]
  rw [e]
  refine ⟨⟨?_, h.low, ⟨?_, h.inn.mlow, ?_, ?_, h.inn.srt.del, ?_, h.inn.ki⟩, ?_, h.left, h.room⟩, hD⟩
  · exact pk_block (p := { p with l := delP s p.l, size := wrap64 (p.size - q.d.l.length) }) (show PkAt W g _ from hk) (hg.block g hk.lt hne)
  · rw [del_Dm] at hm
    exact owns_fit hm (Nat.le_refl _)
  · intro x hx
    have hx1 := h.inn.file x (mem_delP.1 hx).1
    exact hx1.of (fun k hk1 => hD.block k (hx1.owned k hk1).2 (fun e => e.elim (h.not_two hx1 k hk1).1 (h.not_two hx1 k hk1).2))
  · exact fun x hx y hy hne => h.inn.apart x (mem_delP.1 hx).1 y (mem_delP.1 hy).1 hne
  · exact own_block h.inn.keep (fun ad hA => hD.block _ (own_in h.inn.keep ad hA).2 (fun e => by
      rcases e with e | e
      · exact hgi (e ▸ .inr (.inl ⟨ad, hA, rfl⟩))
      · exact hb.1 ad hA e))
  · show wrap64 (p.size - q.d.l.length) = wrap64 (sumP (delP s p.l))
    have := sumP_del h.inn.srt hq
    rw [hs] at this
    rw [h.size, ← this]
    unfold wrap64
    omega

set_option maxRecDepth 100000 in
set_option maxHeartbeats 4000000 in
theorem take_any (B g : Nat) (p : Pk) (s : ByteArray) (w : World) (h : PSt w B g p) (hs : s.size ≤ maxLen) :
    Calls Try.prog 50 #[.pointer (some ⟨g, 0, none⟩), .string s] w fun e w' => e = .returned (.tuple #[]) ∧ PSt w' B g (takeP p s) ∧ Does (Two g p.b) (Two g p.b) w w' := by
  obtain ⟨c0, c1, -⟩ := h.at_.cell
  have f1 := h.at_.frozen 1
  have HL := look_run h.inn.map s hs
  have H := Lib.hid h
  clear h
  obtain ⟨o, ho⟩ : ∃ o, findP s p.l = o := ⟨_, rfl⟩
  rw [ho] at HL
  have HO := Lib.hid ho
  clear ho
  cases o with
  | none =>
    unfold ptrOf at HL
    go_enter Try.func50, Try.ntmps50
    go_wp2_with fail
    go_end0
    have e : takeP p s = p := by unfold takeP; rw [HO.out]
    rw [e]
    exact ⟨rfl, H.out, Does.refl _ _⟩
  | some q =>
    unfold ptrOf Pf.at_ at HL
    have a0 := (H.out.inn.file q (findP_mem HO.out).1).at_.cell.1
    obtain ⟨qs, qh, ⟨qa, qc, ql⟩, qy⟩ := q
    unfold Sl.val at a0
    simp only at a0 HL
    go_enter Try.func50, Try.ntmps50
    go_upto_region 2 with fail
    go_still_tail 12, (by kernel_rfl)
    change wpList _ _ _ _ _ w.drew
    go_upto_region 3 with fail
    have K2 : Hid (PkAt (w.setCell ⟨g, 1, none⟩ (.int .i64 (wrap64 (p.size - ql.length)))).drew g { p with size := wrap64 (p.size - ql.length) }) := Lib.hid (PkAt.set (p := p) (show PkAt w g p from H.out.at_) 1 _ rfl)
    have D2 : Hid (Does (Two g p.b) (Two g p.b) w (w.setCell ⟨g, 1, none⟩ (.int .i64 (wrap64 (p.size - ql.length)))).drew) := Lib.hid ((does_set (w := w) (.inl rfl)).trans (Does.of_below (Below.refl _ _).drew (fun _ hk => .inl hk)))
    have M2 : Hid ((w.setCell ⟨g, 1, none⟩ (.int .i64 (wrap64 (p.size - ql.length)))).drew.ownsMap Try.prog 9 ptrElem p.b p.l.length (Dm p.l)) := Lib.hid (owns_at H.out.inn.map (Below.heap_setCell w ⟨g, 1, none⟩ _ p.b (fun e => H.out.not_inner (.inl e.symm))))
    clear c0 c1 f1 HL a0
    generalize (w.setCell ⟨g, 1, none⟩ (.int .i64 (wrap64 (p.size - ql.length)))).drew = W at K2 D2 M2 ⊢
    have c0 := K2.out.cell.1
    go_wp2_with (at_delete; refine wpList_delete_own _ rfl _ _ 74 9 rfl 73 strT Try.underlying74 ptrElem p.b p.l.length (Dm p.l) rfl M2.out _ _ rfl (kOf_key s hs) ?_; intro w5 ho5 ht5; have E5 := Lib.hid (And.intro ho5 ht5); clear ho5 ht5)
    go_end0
    obtain ⟨r1, r2⟩ := H.out.take_end HO.out K2.out D2.out E5.out.1 E5.out.2.grown
    exact ⟨rfl, r1, r2⟩

set_option maxRecDepth 100000 in
theorem clone_any (A : Option Addr) (L : List Int) (n c : Nat) (w : World) (hn : L.length = n) (h : Bys w A L) (hl : n ≤ 140737488355328) :
    Calls Try.prog 34 #[.slice A n c] w (Longer w w.heap.size L) := by
  subst hn
  cases A with
  | none =>
    have hL : L = [] := by
      rcases h with h | ⟨_, h, _⟩
      · exact h
      · cases h
    subst hL
    clear h hl
    rw [List.length_nil]
    have hnil := fun W => Go.Lib.run_eql_slice_nil_nil (P := Try.prog) W 0 c Try.underlying38
    go_enter Try.func34, Try.ntmps34
    go_wp2_with fail
    go_ret
    exact ⟨none, 0, rfl, Row.nil _ _, Below.refl _ _⟩
  | some ad =>
    have HB := Lib.hid (h.alloc (.cells #[] 5))
    have HL := Lib.hid hl
    have M0 := Lib.hid (row_made w w.heap.size [] #[] rfl (by simp) (Nat.le_refl _))
    have B0 := Lib.hid (below_new w (.cells #[] 5))
    obtain ⟨n, hn⟩ : ∃ n, L.length = n := ⟨_, rfl⟩
    have HN := Lib.hid hn
    rw [hn]
    clear h hl hn
    have hnil := fun W => Go.Lib.run_eql_slice_some_nil (P := Try.prog) W ad n c Try.underlying38
    go_enter Try.func34, Try.ntmps34
    go_wp2_with (at_builtin; refine wpList_append_row _ rfl (.tmp 5) (.tmp 6) rfl w.heap.size _ 0 [] L _ 0 n c rfl rfl rfl HN.out M0.out HB.out (by simp) (by have := HL.out; have := HN.out; simp only [List.length_nil]; omega) ?_; intro A1 c1 w1 r1 b1; have R1 := Lib.hid r1; have B1 := Lib.hid b1; clear r1 b1)
    go_ret
    exact ⟨A1, c1, ret_slice (by have := HN.out; first | omega | (simp; omega)), R1.out, B0.out.trans B1.out⟩

/-- A row of numbers, appended to an empty one. -/
theorem ivals_len (L : List Int) : (ivals L).length = L.length := by simp [ivals]
theorem ivals_one {L : List Int} : ∀ u ∈ ivals L, u.oneCell' = true := fun u hu => by
  obtain ⟨x, -, rfl⟩ := List.mem_map.1 hu
  rfl
theorem info3 : (Try.prog.info? 3).map (fun i => (i.zero, i.size, i.bytes)) = some (some (.int .i64 0), 1, 8) := by kernel_rfl
theorem Irow.nil (w : World) (B : Nat) : Irow w B none 0 [] := World.ownsRow_nil w B _ _
theorem irow_made (w : World) : Irow (w.alloc (.cells #[] 3)) w.heap.size (some ⟨w.heap.size, 0, none⟩) 0 [] :=
  World.ownsRow_lit w #[] 0 (Nat.le_refl _) (Nat.zero_le _) rfl
theorem wpList_append_irow (w : World) {ops : Array Oper} {rest : List Oper} {o : Oper} {a : Act} {Q : Exit → Act → World → Prop} (hgd : o.guard = none) (s x : Operand)
    (ho : o.op = .call { callee := .builtin .append, args := #[s, x], argTypes := #[23, 23] })
    (B : Nat) (A : Option Addr) (c : Nat) (M : List Int) (C : Option Addr) (m cm : Nat) (hs : a.eval s = .slice A 0 c) (hx : a.eval x = .slice C m cm) (em : M.length = m) (h : Irow w B A c []) (hm : Ints w C M) (hB : B ≤ w.heap.size) (hr : m * 8 ≤ 140737488355328)
    (k : ∀ A' c' w', Irow w' B A' c' M → Below B w w' → wpList Try.prog ops Q rest (a.put o.dst (.slice A' m c')) w') : wpList Try.prog ops Q (o :: rest) a w := by
  subst em
  obtain ⟨i, hi, hz0, hz1, hz2⟩ := info_parts info3
  refine wpList_plain hgd fun K hK => ?_
  obtain ⟨A', c', w', r, h2, h3⟩ := run_append_lies w 23 o.type 3 i (.int .i64 0) 1 8 Try.underlying23 hi hz0 hz1 hz2 rfl (by decide) B A 0 c [] h C M.length cm (ivals M) (by simp [ivals_len]) hm ivals_one (by unfold maxLen; omega) (by omega) hB
  rw [Nat.zero_add] at r h2
  have k' := k A' c' w' (by unfold Irow; simpa using h2) h3
  unfold Oper.wp execOp
  simp only [ho, resolve, invoke, builtin, Sem.run_bind, Sem.run_pure, Result.andThen_ok, List.map_toArray, List.map_cons, List.map_nil, hs, hx, r]
  exact hK _ _ k'
set_option maxRecDepth 100000 in
theorem cloneI_any (A : Option Addr) (L : List Int) (n c : Nat) (w : World) (hn : L.length = n) (h : Ints w A L) (hl : n * 8 ≤ 140737488355328) :
    Calls Try.prog 69 #[.slice A n c] w fun e w' => ∃ A' c', e = .returned (.slice A' n c') ∧ Irow w' w.heap.size A' c' L ∧ Below w.heap.size w w' := by
  subst hn
  cases A with
  | none =>
    have hL : L = [] := by
      rcases h with h | ⟨_, h, _⟩
      · simpa using h
      · cases h
    subst hL
    clear h hl
    rw [List.length_nil]
    have hnil := fun W => Go.Lib.run_eql_slice_nil_nil (P := Try.prog) W 0 c Try.underlying23
    go_enter Try.func69, Try.ntmps69
    go_wp2_with fail
    go_ret
    exact ⟨none, 0, rfl, Irow.nil _ _, Below.refl _ _⟩
  | some ad =>
    have HB : Hid (Ints (w.alloc (.cells #[] 3)) (some ad) L) := Lib.hid (Lies.kept h (below_new w _))
    have HL := Lib.hid hl
    have M0 := Lib.hid (irow_made w)
    have B0 := Lib.hid (below_new w (.cells #[] 3))
    obtain ⟨n, hn⟩ : ∃ n, L.length = n := ⟨_, rfl⟩
    have HN := Lib.hid hn
    rw [hn]
    clear h hl hn
    have hnil := fun W => Go.Lib.run_eql_slice_some_nil (P := Try.prog) W ad n c Try.underlying23
    go_enter Try.func69, Try.ntmps69
    go_wp2_with (at_builtin; refine wpList_append_irow _ rfl (.tmp 5) (.tmp 6) rfl w.heap.size _ 0 L _ n c rfl rfl HN.out M0.out HB.out (by simp) (by have := HL.out; have := HN.out; omega) ?_; intro A1 c1 w1 r1 b1; have R1 := Lib.hid r1; have B1 := Lib.hid b1; clear r1 b1)
    go_ret
    exact ⟨A1, c1, rfl, R1.out, B0.out.trans B1.out⟩

end Go.Proofs.Ytjacjafpeajhaaa
