/-
  Walks: the program's disk: Append.
-/
import Derived.Test.YtjacjafpeajhaaaPgM
import Derived.Maps.AppendAt
namespace Go.Proofs.Ytjacjafpeajhaaa
open Go.RowKit
open Go.Maps

set_option maxRecDepth 100000 in
/-- An append of bytes, which says where the new slice lies. -/
theorem wpList_append_row_at (w : World) {ops : Array Oper} {rest : List Oper} {o : Oper} {a : Act} {Q : Exit → Act → World → Prop} (hgd : o.guard = none) (s x : Operand)
    (ho : o.op = .call { callee := .builtin .append, args := #[s, x], argTypes := #[38, 38] })
    (B : Nat) (A : Option Addr) (c : Nat) (L M : List Int) (C : Option Addr) (n m cm : Nat) (hs : a.eval s = .slice A n c) (hx : a.eval x = .slice C m cm) (en : L.length = n) (em : M.length = m) (h : Row w B A c L) (hm : Bys w C M) (hB : B ≤ w.heap.size) (hr : L.length + M.length ≤ 140737488355328)
    (k : ∀ A' c' w', Row w' B A' c' (L ++ M) → w.grownBy w' (A.map (fun ad => ad.block)) → (∀ ad', A' = some ad' → (∃ ad, A = some ad ∧ ad'.block = ad.block) ∨ w.heap.size ≤ ad'.block) → wpList Try.prog ops Q rest (a.put o.dst (.slice A' (n + m) c')) w') : wpList Try.prog ops Q (o :: rest) a w := by
  subst en
  subst em
  obtain ⟨i, hi, hz0, hz1, hz2⟩ := info_parts info5
  have hown : ∀ ad, A = some ad → ad = ⟨ad.block, 0, none⟩ := fun ad ha => by
    rcases h.2 with ⟨hn, _⟩ | ⟨g, cap, cur, e, _⟩
    · injection hn with hn
      rw [hn] at ha
      cases ha
    · injection e with e
      rw [e] at ha
      injection ha with ha
      rw [← ha]
  by_cases hne : M = []
  · subst hne
    have hrun := run_append_grown (P := Try.prog) w 38 o.type 5 i (.int .u8 0) 1 1 Try.underlying38 hi hz0 hz1 hz2 rfl (by decide) B A L.length c (vals L) h C 0 cm (vals []) rfl hm.lies vals_one (by have := (own_cap h).1; unfold maxLen; omega) (by simp at hr; omega) hB
    refine wpList_plain hgd fun K hK => ?_
    have k' := k A c w (by simpa using h) ⟨rfl, rfl, rfl, Nat.le_refl _, fun _ _ _ => rfl⟩ (fun ad' h' => .inl ⟨ad', h', rfl⟩)
    have hr2 : (Builtin.append_ #[38, 38] o.type #[.slice A L.length c, .slice C 0 cm]).run Try.prog w = .ok (.slice A L.length c) w := by
      rcases h.2 with ⟨h2, _⟩ | ⟨g, cap, cur, h2, _, _, hnc, _⟩
      · injection h2 with h2 h3 h4
        subst h2
        subst h4
        rw [h3]
        cases C <;> simp [Builtin.append_, run_underlying Try.underlying38, sizeOf, typeInfo, hi, Builtin.lenOf, Builtin.firstCells, loadCells, loadCellsFrom]
      · injection h2 with h2 h3 h4
        subst h2
        subst h4
        cases C <;> simp [Builtin.append_, run_underlying Try.underlying38, sizeOf, typeInfo, hi, Builtin.lenOf, Builtin.firstCells, loadCells, loadCellsFrom, storeCells, hnc]
    unfold Oper.wp execOp
    simp only [ho, resolve, invoke, builtin, Sem.run_bind, Sem.run_pure, Result.andThen_ok, List.map_toArray, List.map_cons, List.map_nil, hs, hx, List.length_nil, hr2]
    exact hK _ _ k'
  · obtain ⟨ad, rfl, hc⟩ := hm.resolve_left hne
    have hnews : ∀ j u, (vals M)[j]? = some u → w.cell? (ad.add j) = some u := fun j u hu => by
      obtain ⟨x, e1, rfl⟩ := vals_get hu
      exact hc j x e1
    refine wpList_append_own_at w hgd s x 38 ho B 5 i (.int .u8 0) 1 1 Try.underlying38 hi hz0 hz1 hz2 rfl (by decide) _ L.length (vals L) hs h ad M.length cm (vals M) hx (by simp [vals_len]) hnews vals_one (by unfold maxLen; omega) (by omega) hB ?_
    intro v' w' hown' hg _ hloc
    have key : ∃ A' c', v' = .slice A' (L.length + M.length) c' := by
      rcases hown'.2 with ⟨rfl, he⟩ | ⟨g, cap, cur, rfl, _⟩
      · exact ⟨none, 0, by rw [he]⟩
      · exact ⟨_, _, rfl⟩
    obtain ⟨A', c', rfl⟩ := key
    have e1 : (Value.slice A L.length c).ownBlock = A.map (fun ad => ad.block) := by
      cases A with
      | none => rfl
      | some b =>
        rw [hown b rfl]
        rfl
    rw [e1] at hg
    refine k A' c' w' (by unfold Row; rw [List.length_append, vals_append]; exact hown') hg (fun ad' ha' => ?_)
    have e2 : (Value.slice A' (L.length + M.length) c').ownBlock = some ad'.block := by
      rcases hown'.2 with ⟨hn, _⟩ | ⟨g, cap, cur, e, _⟩
      · injection hn with hn
        rw [hn] at ha'
        cases ha'
      · injection e with e
        rw [e] at ha'
        injection ha' with ha'
        rw [e, ← ha']
        rfl
    rw [e2, e1] at hloc
    rcases hloc with h1 | h1
    · cases A with
      | none => cases h1
      | some b =>
        injection h1 with h1
        exact .inl ⟨b, rfl, h1⟩
    · injection h1 with h1
      exact .inr (by omega)

theorem PSt.app_mid {w w5 : World} {B g : Nat} {p : Pk} {q : Pf} (h : PSt w B g p) (hm : q ∈ p.l) (hg : w.grownBy w5 (q.d.a.map (fun ad => ad.block))) : FileAt w5 q.h q.d q.y ∧ PkAt w5 g p := by
  have hfq := h.inn.file q hm
  have h5 : ∀ k, k < w.heap.size → ¬ (∃ ad, q.d.a = some ad ∧ k = ad.block) → w5.heap[k]? = w.heap[k]? := fun k hk hn => hg.block k hk (fun e => by
    cases ha : q.d.a with
    | none => rw [ha] at e; cases e
    | some ad =>
      rw [ha] at e
      injection e with e
      exact hn ⟨ad, ha, e⟩)
  refine ⟨?_, pk_block h.at_ (h5 g h.at_.lt (fun ⟨ad, ha, e⟩ => (h.not_two hfq ad.block (.inr ⟨ad, ha, rfl⟩)).1 e.symm))⟩
  have := hfq.at_
  unfold FileAt at this ⊢
  rw [h5 q.h hfq.at_.lt (fun ⟨ad, ha, e⟩ => by
    obtain ⟨cur, hc⟩ := own_type hfq.row ha
    rw [← e, this] at hc
    injection hc with hc
    injection hc with _ hc
    exact absurd hc (by decide)), this]
theorem appM_P {s : ByteArray} {b : List Int} {l : List Pf} {q : Pf} {i : Nat} {A' : Option Addr} {c' : Nat} (hi : findM s (l.map Pf.rd) = some i) (hq : l[i]? = some q) : appM s b (l.map Pf.rd) = (l.set i { q with d := ⟨A', c', q.d.l ++ b⟩ }).map Pf.rd := by
  unfold appM
  rw [hi, setP_rd]
  simp only [List.getElem?_map, hq, Option.map_some]
  rfl
/-- Bytes laid behind a file's. -/
theorem PSt.appended {w w5 : World} {B g i : Nat} {p : Pk} {q : Pf} {A' : Option Addr} {c' : Nat} {b : List Int} (h : PSt w B g p) (hq : p.l[i]? = some q) (hr : Row w5 B A' c' (q.d.l ++ b)) (hg : w.grownBy w5 (q.d.a.map (fun ad => ad.block))) (hloc : ∀ ad', A' = some ad' → (∃ ad, q.d.a = some ad ∧ ad'.block = ad.block) ∨ w.heap.size ≤ ad'.block) (hb : Byt b) :
    PSt ((w5.setCell ⟨q.h, 0, none⟩ (.slice A' (q.d.l ++ b).length c')).setCell ⟨g, 1, none⟩ (.int .i64 (wrap64 (p.size + b.length)))) B g { p with l := p.l.set i { q with d := ⟨A', c', q.d.l ++ b⟩ }, size := wrap64 (p.size + b.length) } ∧
      Does (p.own g) (Pk.own { p with l := p.l.set i { q with d := ⟨A', c', q.d.l ++ b⟩ }, size := wrap64 (p.size + b.length) } g) w ((w5.setCell ⟨q.h, 0, none⟩ (.slice A' (q.d.l ++ b).length c')).setCell ⟨g, 1, none⟩ (.int .i64 (wrap64 (p.size + b.length)))) := by
  have hm := List.mem_of_getElem? hq
  have hfq := h.inn.file q hm
  have hrw : ∀ ad', A' = some ad' → q.own ad'.block ∨ w.heap.size ≤ ad'.block := fun ad' ha => (hloc ad' ha).imp (fun ⟨ad, h1, h2⟩ => .inr ⟨ad, h1, h2⟩) id
  have h5 : ∀ k, k < w.heap.size → ¬ (∃ ad, q.d.a = some ad ∧ k = ad.block) → w5.heap[k]? = w.heap[k]? := fun k hk hn => hg.block k hk (fun e => by
    cases ha : q.d.a with
    | none => rw [ha] at e; cases e
    | some ad =>
      rw [ha] at e
      injection e with e
      exact hn ⟨ad, ha, e⟩)
  have hgq : g ≠ q.h := fun e => (h.not_two hfq q.h (.inl rfl)).1 e.symm
  have hf5 : FileAt w5 q.h q.d q.y := by
    have := hfq.at_
    unfold FileAt at this ⊢
    rw [h5 q.h hfq.at_.lt (fun ⟨ad, ha, e⟩ => by
      obtain ⟨cur, hc⟩ := own_type hfq.row ha
      rw [← e, this] at hc
      injection hc with hc
      injection hc with _ hc
      exact absurd hc (by decide)), this]
  have hg5 : PkAt w5 g p := pk_block h.at_ (h5 g h.at_.lt (fun ⟨ad, ha, e⟩ => (h.not_two hfq ad.block (.inr ⟨ad, ha, rfl⟩)).1 e.symm))
  have hA : ∀ ad', A' = some ad' → ad'.block ≠ q.h ∧ ad'.block ≠ g := fun ad' ha => by
    obtain ⟨cur, hc⟩ := own_type hr ha
    refine ⟨fun e => ?_, fun e => ?_⟩
    · unfold FileAt at hf5
      rw [e, hf5] at hc
      injection hc with hc
      injection hc with _ hc
      exact absurd hc (by decide)
    · unfold PkAt at hg5
      rw [e, hg5] at hc
      injection hc with hc
      injection hc with _ hc
      exact absurd hc (by decide)
  have hcell : ∀ k, k ≠ q.h → k ≠ g → ((w5.setCell ⟨q.h, 0, none⟩ (.slice A' (q.d.l ++ b).length c')).setCell ⟨g, 1, none⟩ (.int .i64 (wrap64 (p.size + b.length)))).heap[k]? = w5.heap[k]? := fun k h1 h2 =>
    (Below.heap_setCell _ ⟨g, 1, none⟩ _ k h2).trans (Below.heap_setCell _ ⟨q.h, 0, none⟩ _ k h1)
  have hok : FileOk ((w5.setCell ⟨q.h, 0, none⟩ (.slice A' (q.d.l ++ b).length c')).setCell ⟨g, 1, none⟩ (.int .i64 (wrap64 (p.size + b.length)))) B { q with d := ⟨A', c', q.d.l ++ b⟩ } := by
    refine ⟨?_, hfq.low, own_block hr (fun ad' ha => hcell _ (hA ad' ha).1 (hA ad' ha).2), hfq.byt.append hb⟩
    have := FileAt.set0 (d' := ⟨A', c', q.d.l ++ b⟩) hf5
    unfold FileAt at this ⊢
    rw [Below.heap_setCell _ ⟨g, 1, none⟩ _ q.h (fun e => hgq e.symm)]
    exact this
  have hin := h.inn.reput (q' := { q with d := ⟨A', c', q.d.l ++ b⟩ }) hq rfl rfl hok hrw (fun k hk hn => (hcell k (fun e => hn (.inl e)) (fun e => h.not_inner (e ▸ hk))).trans (h5 k (h.inn.owned k hk).2 (fun e => hn (.inr e))))
  refine ⟨⟨?_, h.low, ⟨hin.map, hin.mlow, hin.file, hin.apart, hin.srt, hin.keep, hin.ki⟩, ?_, h.left, h.room⟩, ?_⟩
  · have h6 : PkAt (w5.setCell ⟨q.h, 0, none⟩ (.slice A' (q.d.l ++ b).length c')) g p := pk_block hg5 (Below.heap_setCell w5 ⟨q.h, 0, none⟩ _ g hgq)
    exact (show PkAt _ g { p with l := p.l.set i { q with d := ⟨A', c', q.d.l ++ b⟩ } } from h6).set 1 _ rfl
  · show wrap64 (p.size + b.length) = wrap64 (sumP (p.l.set i { q with d := ⟨A', c', q.d.l ++ b⟩ }))
    have e2 : sumP (p.l.set i { q with d := ⟨A', c', q.d.l ++ b⟩ }) = sumP p.l + b.length := by
      have key : ∀ (l : List Pf) (i : Nat), l[i]? = some q → sumM ((l.set i { q with d := ⟨A', c', q.d.l ++ b⟩ }).map Pf.rd) = sumM (l.map Pf.rd) + b.length := by
        intro l
        induction l with
        | nil => intro i h; simp at h
        | cons x l ih =>
          intro i h
          cases i with
          | zero =>
            simp at h
            subst h
            simp [sumM, Pf.rd]
            omega
          | succ i =>
            have := ih i (by simpa using h)
            simp only [sumM, List.set_cons_succ, List.map_cons, List.sum_cons] at this ⊢
            omega
      unfold sumP
      rw [key p.l i hq]
      omega
    rw [e2, h.size]
    unfold wrap64
    omega
  · refine ⟨hg.os, hg.tape, hg.output, by simpa using hg.size, fun k hk hn => ?_, fun k hk => ?_⟩
    · rw [hcell k (fun e => hn (.inr (.inr (.inr ⟨q, hm, .inl e⟩)))) (fun e => hn (.inl e))]
      exact h5 k hk (fun e => hn (.inr (.inr (.inr ⟨q, hm, .inr e⟩))))
    · rcases hk with e | e | e | ⟨x, hx, hk⟩
      · exact .inl (.inl e)
      · exact .inl (.inr (.inl e))
      · exact .inl (.inr (.inr (.inl e)))
      · rcases List.mem_or_eq_of_mem_set hx with h1 | h1
        · exact .inl (.inr (.inr (.inr ⟨x, h1, hk⟩)))
        · subst h1
          rcases hk with e | ⟨ad, ha, e⟩
          · exact .inl (.inr (.inr (.inr ⟨q, hm, .inl e⟩)))
          · rcases hrw ad ha with h2 | h2
            · exact .inl (.inr (.inr (.inr ⟨q, hm, e ▸ h2⟩)))
            · exact .inr (e ▸ h2)

end Go.Proofs.Ytjacjafpeajhaaa
