/-
  Memory: pairs as they lie, two cells each. Walks: are pairs alike, by the document. Plain: what is seen of entries in order at a number, and what may be forgotten. Walks: what is seen of entries, by the program. Walks: what is seen of entries, by the document. Walks: are pairs alike, by the document. What comes in, as the laws hold it; and what is answered, in plain terms. The laws: what is seen of any list; what is forgotten; any lists are merged. Plain: where pieces meet. The law: who looks at the mark or later sees what was seen before anything was forgotten. The law: pieces show who looks at the mark or later what the lists did; no key stands in two of them.
-/
import Derived.Laws.Strings
import Derived.Deep.QuietTactic
import Derived.BigQuiet
import Derived.Deep.RegionLaw
import Derived.Deep.RegionHeld3
import Derived.Deep.RegionWith
import Derived.Lib.BufferMore
import Derived.Deep.CutRange
import Derived.Deep.Cut
import Derived.Deep.CutBlock
import Derived.Test.YtcffpkflijpdjaaCJ00
import Derived.Test.YtcffpkflijpdjaaCJ01
import Derived.Test.YtcffpkflijpdjaaCJ02
import Derived.Test.YtcffpkflijpdjaaCJ03
import Derived.Test.YtcffpkflijpdjaaCJ04
import Derived.Test.YtcffpkflijpdjaaCJ05
import Derived.Test.YtcffpkflijpdjaaCJ06
import Derived.Test.YtcffpkflijpdjaaCJ07
import Derived.Test.YtcffpkflijpdjaaCJ08
import Derived.Test.YtcffpkflijpdjaaCJ09
import Derived.Test.YtcffpkflijpdjaaCJ10
import Derived.Test.YtcffpkflijpdjaaCJ11
import Derived.Test.YtcffpkflijpdjaaCJ12
import Derived.Test.YtcffpkflijpdjaaCJ13
import Derived.Test.YtcffpkflijpdjaaCJ14
import Derived.Test.YtcffpkflijpdjaaCJ15
import Derived.Test.YtcffpkflijpdjaaCJ16
import Derived.Test.YtcffpkflijpdjaaCJ17
set_option linter.unusedSimpArgs false
set_option linter.unusedVariables false
namespace Go.Proofs.Ytcffpkflijpdjaa
open Go.RowKit
theorem rds_len (l : List Bp) : (rds l).length = l.length := by simp [rds]
theorem rds_get {l : List Bp} {j : Nat} {q : Bp} (h : l[j]? = some q) : (rds l)[j]? = some q.rd := by simp [rds, h]
theorem pvals_len : ∀ l : List Bp, (pvals l).length = l.length * 2
  | [] => rfl
  | q :: l => by
    have := pvals_len l
    unfold pvals at this ⊢
    rw [List.flatMap_cons, List.length_append, this]
    simp [Bp.cells]
    omega
theorem pvals_append (l m : List Bp) : pvals (l ++ m) = pvals l ++ pvals m := by simp [pvals]
theorem pvals_get : ∀ (l : List Bp) (j : Nat) (q : Bp), l[j]? = some q → (pvals l)[j * 2]? = some q.k.val ∧ (pvals l)[j * 2 + 1]? = some q.v.val
  | [], _, _, h => by simp at h
  | p :: l, 0, q, h => by
    simp at h
    subst h
    exact ⟨rfl, rfl⟩
  | p :: l, j + 1, q, h => by
    have ih := pvals_get l j q (by simpa using h)
    have e : pvals (p :: l) = p.k.val :: p.v.val :: pvals l := rfl
    rw [e]
    have e0 : (j + 1) * 2 = j * 2 + 1 + 1 := by omega
    rw [e0]
    refine ⟨by simpa using ih.1, ?_⟩
    rw [show j * 2 + 1 + 1 + 1 = (j * 2 + 1) + 1 + 1 by omega]
    simpa using ih.2
theorem pvals_one {l : List Bp} : ∀ u ∈ pvals l, u.oneCell' = true := fun u hu => by
  obtain ⟨q, -, h⟩ := List.mem_flatMap.1 hu
  simp [Bp.cells] at h
  rcases h with rfl | rfl <;> rfl
/-- The cells of one pair, as a walk spells them. -/
def AtP (w : World) (E : Addr) (q : Bp) : Prop := w.cell? E = some (.slice q.k.a q.k.l.length q.k.c) ∧ w.cell? ⟨E.block, E.off + 1, none⟩ = some (.slice q.v.a q.v.l.length q.v.c)
theorem lies_pair {w : World} {A : Option Addr} {l : List Bp} {j : Nat} {q : Bp} (h : Lies w A (pvals l)) (hq : l[j]? = some q) : ∃ ad, A = some ad ∧ AtP w (ad.add (j * 2)) q := by
  obtain ⟨h0, h1⟩ := pvals_get l j q hq
  rcases h with h | ⟨ad, rfl, h2⟩
  · rw [h] at h0
    simp at h0
  · refine ⟨ad, rfl, ?_, ?_⟩
    · simpa [Sl.val] using h2 _ _ h0
    · have := h2 _ _ h1
      rw [← add_add] at this
      simpa [Addr.add, Sl.val] using this
theorem info65 : (Try.prog.info? 65).map (fun i => (i.zero, i.size, i.bytes)) = some (some (.agg #[.slice none 0 0, .slice none 0 0]), 2, 48) := by kernel_rfl
theorem run_append_prow (w : World) (ty : TypeId) (B : Nat) (A : Option Addr) (c : Nat) (T U : List Bp) (C : Option Addr) (cm : Nat) (h : Prow w B A c T) (hm : Lies w C (pvals U)) (hB : B ≤ w.heap.size) (hr : (T.length + U.length) * 48 ≤ 140737488355328) :
    ∃ A' c' w', (Builtin.append_ #[49, 49] ty #[.slice A T.length c, .slice C U.length cm]).run Try.prog w = .ok (.slice A' (T.length + U.length) c') w' ∧ Prow w' B A' c' (T ++ U) ∧ Below B w w' ∧ w.grownBy w' (Value.slice A T.length c).ownBlock := by
  obtain ⟨i, hi, hz0, hz1, hz2⟩ := info_parts info65
  obtain ⟨A', c', w', r, h2, h3, h4⟩ := run_append_grown (P := Try.prog) w 49 ty 65 i (.agg #[.slice none 0 0, .slice none 0 0]) 2 48 Try.underlying49 hi hz0 hz1 hz2 rfl (by decide) B A T.length c (pvals T) h C U.length cm (pvals U) (by rw [pvals_len]) hm pvals_one (by unfold maxLen; omega) hr hB
  rw [← pvals_append] at h2
  exact ⟨A', c', w', r, by unfold Prow; rw [List.length_append]; exact h2, h3, h4⟩
/-- An append of pairs, as a step of a region that draws. -/
theorem step_append_prow (w : World) {ops : Array Oper} {o : Oper} {a : Act} {K : Act → World → Prop} {Q : Exit → Act → World → Prop} {E : Prop} (hgd : o.guard = none) (s x : Operand)
    (ho : o.op = .call { callee := .builtin .append, args := #[s, x], argTypes := #[49, 49] })
    (B : Nat) (A : Option Addr) (c : Nat) (T U : List Bp) (C : Option Addr) (n m cm : Nat) (hs : a.eval s = .slice A n c) (hx : a.eval x = .slice C m cm) (en : T.length = n) (em : U.length = m) (h : Prow w B A c T) (hm : Lies w C (pvals U)) (hB : B ≤ w.heap.size) (hr : (T.length + U.length) * 48 ≤ 140737488355328)
    (k : ∀ A' c' w', Prow w' B A' c' (T ++ U) → Below B w w' → w.grownBy w' (Value.slice A n c).ownBlock → K (a.put o.dst (.slice A' (n + m) c')) w') : if Region.wanted o (yielded ops a.tmps) = true then Oper.wp Try.prog o a w K Q else E := by
  have hw : Region.wanted o (yielded ops a.tmps) = true := by simp [Region.wanted, hgd]
  rw [if_pos hw]
  subst en
  subst em
  obtain ⟨A', c', w', r, h2, h3, h4⟩ := run_append_prow w o.type B A c T U C cm h hm hB hr
  have k' := k A' c' w' h2 h3 h4
  unfold Oper.wp execOp
  simp only [ho, resolve, invoke, builtin, Sem.run_bind, Sem.run_pure, Result.andThen_ok, List.map_toArray, List.map_cons, List.map_nil, hs, hx, r]
  exact k'
theorem lit_pair (w : World) (kA vA : Option Addr) (kc vc : Nat) (kl vl : List Int) (n m : Nat) (hn : kl.length = n) (hm : vl.length = m) : Lies (w.alloc (.cells #[.slice kA n kc, .slice vA m vc] 65)) (some ⟨w.heap.size, 0, none⟩) (pvals [⟨⟨kA, kc, kl⟩, ⟨vA, vc, vl⟩⟩]) := by
  subst hn
  subst hm
  exact lit_lies w _ _ rfl _
end Go.Proofs.Ytcffpkflijpdjaa
namespace Go.Proofs.Ytcffpkflijpdjaa
open Go.RowKit
theorem rd_differ {l l' : List Bp} {k : Nat} {x y : Bp} (hx : (rds l)[k]? = some x.rd) (hy : (rds l')[k]? = some y.rd) (h : x.rd ≠ y.rd) : decide (rds l = rds l') = false := by
  simp only [decide_eq_false_iff_not]
  intro e
  rw [e, hy] at hx
  exact h (Option.some.inj hx).symm
theorem rd_same {l l' : List Bp} {k : Nat} {x y : Bp} (hx : (rds l)[k]? = some x.rd) (hy : (rds l')[k]? = some y.rd) (h : x.rd = y.rd) (hr : (rds l).take k = (rds l').take k) : (rds l).take (k + 1) = (rds l').take (k + 1) := by
  rw [List.take_add_one, List.take_add_one, hx, hy, hr, h]
end Go.Proofs.Ytcffpkflijpdjaa
namespace Go.Proofs.Ytcffpkflijpdjaa
theorem pickF_len (K : Option Er → Er → Bool) : ∀ (l : List Er) (p : Option Er), (pickF K p l).length ≤ l.length
  | [], _ => by simp [pickF]
  | x :: l, p => by
    have ih := pickF_len K l (some x)
    simp only [pickF]
    split <;> simp <;> omega
/-- What is seen at a number. -/
def seenK (s : Int) (p : Option Er) (e : Er) : Bool := lastB p e s && !e.2.2.1
def keyval (e : Er) : Pr := (e.1, e.2.2.2)
def visE (s : Int) (l : List Er) : List Pr := (pickF (seenK s) none l).map keyval
/-- The same, told of the whole list. -/
def topB (l : List Er) (s : Int) (e : Er) : Bool := decide (e.2.1 ≤ s) && l.all (fun q => decide (q.1 ≠ e.1) || decide (s < q.2.1) || decide (q.2.1 ≤ e.2.1))
theorem topB_iff {l : List Er} {s : Int} {e : Er} : topB l s e = true ↔ e.2.1 ≤ s ∧ ∀ q ∈ l, q.1 = e.1 → q.2.1 ≤ s → q.2.1 ≤ e.2.1 := by
  unfold topB
  rw [Bool.and_eq_true, decide_eq_true_iff, List.all_eq_true]
  refine and_congr_right fun _ => forall_congr' fun q => forall_congr' fun _ => ?_
  simp only [Bool.or_eq_true, decide_eq_true_iff, ne_eq]
  constructor
  · rintro ((h | h) | h) h1 h2
    · exact absurd h1 h
    · omega
    · exact h
  · intro h
    by_cases h1 : q.1 = e.1
    · by_cases h2 : q.2.1 ≤ s
      · exact .inr (h h1 h2)
      · exact .inl (.inr (by omega))
    · exact .inl (.inl h1)
theorem ordE_key {x y : Er} (h : ordE x y < 0) (hk : x.1 = y.1) : y.2.1 < x.2.1 := by
  rcases ordE_lt.1 h with h | ⟨-, h⟩
  · rw [hk] at h
    rw [cmpL_self] at h
    omega
  · exact h
theorem ordE_between {x y z : Er} (h : ordE x y < 0) (g : ordE y z < 0) (hk : x.1 = z.1) : y.1 = z.1 := by
  rcases ordE_lt.1 h with h | ⟨h, -⟩
  · rcases ordE_lt.1 g with g | ⟨g, -⟩
    · have := cmpL_back _ _ _ h g
      rw [hk, cmpL_self] at this
      omega
    · exact g
  · exact h.symm.trans hk
/-- Of entries in order it is enough to know the one ahead. -/
theorem last_top {l r : List Er} {e : Er} {s : Int} (h : OrdL (l ++ e :: r)) : lastB l.getLast? e s = topB (l ++ e :: r) s e := by
  obtain ⟨-, hp⟩ := OrdL.pw.1 h
  obtain ⟨p1, p2, p3⟩ := List.pairwise_append.1 hp
  obtain ⟨p4, p5⟩ := List.pairwise_cons.1 p2
  rw [Bool.eq_iff_iff, topB_iff]
  unfold lastB
  rw [Bool.and_eq_true, decide_eq_true_iff]
  refine and_congr_right fun hs => ?_
  constructor
  · intro hl q hq hk hqs
    rcases List.mem_append.1 hq with hq | hq
    · exfalso
      have hlt := ordE_key (p3 q hq e (List.mem_cons_self ..)) hk
      cases hl' : l.getLast? with
      | none => rw [List.getLast?_eq_none_iff] at hl'; subst hl'; cases hq
      | some z =>
        rw [hl'] at hl
        simp only [Bool.or_eq_true, decide_eq_true_iff] at hl
        obtain ⟨l', rfl⟩ := List.getLast?_eq_some_iff.1 hl'
        have hz : z ∈ l' ++ [z] := by simp
        obtain ⟨q1, -, q3⟩ := List.pairwise_append.1 p1
        have hqz : q = z ∨ ordE q z < 0 := by
          rcases List.mem_append.1 hq with hq | hq
          · exact .inr (q3 q hq z (by simp))
          · exact .inl (by simpa using hq)
        have hze := p3 z hz e (List.mem_cons_self ..)
        have hzk : z.1 = e.1 := by
          rcases hqz with rfl | hqz
          · exact hk
          · exact ordE_between hqz hze hk
        have hzs : z.2.1 ≤ s := by
          rcases hqz with rfl | hqz
          · exact hqs
          · have := ordE_key hqz (hk.trans hzk.symm)
            omega
        rcases hl with hl | hl
        · omega
        · exact hl hzk
    · rcases List.mem_cons.1 hq with rfl | hq
      · exact Int.le_refl _
      · have := ordE_key (p4 q hq) hk.symm
        omega
  · intro ha
    cases hl' : l.getLast? with
    | none => rfl
    | some z =>
      have hz : z ∈ l := List.mem_of_getLast? hl'
      simp only [Bool.or_eq_true, decide_eq_true_iff]
      by_cases h1 : z.1 = e.1
      · left
        have h2 := ordE_key (p3 z hz e (List.mem_cons_self ..)) h1
        have h3 := ha z (List.mem_append_left _ hz) h1
        omega
      · exact .inr h1
theorem pick_top {K : Option Er → Er → Bool} {T : Er → Bool} {L : List Er} (h : ∀ (l r : List Er) (e : Er), l ++ e :: r = L → K l.getLast? e = T e) : pickF K none L = L.filter T := by
  have : ∀ (r l : List Er), l ++ r = L → pickF K l.getLast? r = r.filter T := by
    intro r
    induction r with
    | nil => intro l _; simp [pickF]
    | cons e r ih =>
      intro l hl
      have h1 := h l r e hl
      have h2 := ih (l ++ [e]) (by rw [List.append_assoc]; exact hl)
      rw [List.getLast?_concat] at h2
      simp only [pickF, h1, h2, List.filter_cons]
  exact this L [] rfl
theorem vis_filter {L : List Er} {s : Int} (h : OrdL L) : visE s L = (L.filter (fun e => topB L s e && !e.2.2.1)).map keyval := by
  unfold visE
  rw [pick_top (T := fun e => topB L s e && !e.2.2.1) fun l r e hl => by
    unfold seenK
    subst hl
    rw [last_top h]]
theorem thin_filter {L : List Er} {m : Int} {b : Bool} (h : OrdL L) : thinE m b L = L.filter (fun e => decide (m < e.2.1) || (topB L m e && !(b && e.2.2.1))) := by
  unfold thinE
  exact pick_top fun l r e hl => by
    unfold thinK
    subst hl
    rw [last_top h]
theorem thin_ord {L : List Er} {m : Int} {b : Bool} (h : OrdL L) : OrdL (thinE m b L) := h.sub (pickF_sub _ _ _)
/-- Who looks at the mark or later sees the same. -/
theorem vis_thin {L : List Er} {m s : Int} {b : Bool} (h : OrdL L) (hm : m ≤ s) : visE s (thinE m b L) = visE s L := by
  rw [vis_filter (thin_ord h), vis_filter h]
  have hT := thin_filter (m := m) (b := b) h
  obtain ⟨T, hTT⟩ : ∃ T, thinE m b L = T := ⟨_, rfl⟩
  rw [hTT] at hT ⊢
  have hmem : ∀ e, e ∈ T ↔ e ∈ L ∧ (m < e.2.1 ∨ (topB L m e = true ∧ ¬ (b = true ∧ e.2.2.1 = true))) := fun e => by
    rw [hT, List.mem_filter]
    simp [Bool.or_eq_true, Bool.and_eq_true]
    cases b <;> simp
  congr 1
  conv => lhs; rw [hT, List.filter_filter]
  refine List.filter_congr fun e he => ?_
  rw [Bool.eq_iff_iff]
  have hPe : (decide (m < e.2.1) || (topB L m e && !(b && e.2.2.1))) = true ↔ e ∈ T := by
    rw [hT, List.mem_filter]
    exact ⟨fun h => ⟨he, h⟩, fun h => h.2⟩
  rw [Bool.and_eq_true, hPe, Bool.and_eq_true, Bool.and_eq_true, topB_iff, topB_iff]
  constructor
  · rintro ⟨⟨⟨h1, h2⟩, h3⟩, h4⟩
    refine ⟨⟨h1, fun q hq hk hqs => ?_⟩, h3⟩
    by_cases hqm : m < q.2.1
    · exact h2 q (by rw [← hT]; exact (hmem q).2 ⟨hq, .inl hqm⟩) hk hqs
    · rcases ((hmem e).1 h4).2 with h5 | ⟨h5, -⟩
      · omega
      · exact (topB_iff.1 h5).2 q hq hk (by omega)
  · rintro ⟨⟨h1, h2⟩, h3⟩
    have h4 : e ∈ T := (hmem e).2 ⟨he, by
      by_cases h5 : m < e.2.1
      · exact .inl h5
      · refine .inr ⟨topB_iff.2 ⟨by omega, fun q hq hk hqs => h2 q hq hk (by omega)⟩, fun h6 => ?_⟩
        rw [h6.2] at h3
        cases h3⟩
    exact ⟨⟨⟨h1, fun q hq hk hqs => h2 q ((hmem q).1 (by rw [hT]; exact hq)).1 hk hqs⟩, h3⟩, h4⟩
end Go.Proofs.Ytcffpkflijpdjaa
namespace Go.Proofs.Ytcffpkflijpdjaa
open Go.RowKit
theorem vis_step {L : List Er} {i : Nat} {e : Er} {s : Int} (h : L[i]? = some e) : (pickF (seenK s) none (L.take (i + 1))).map keyval = (pickF (seenK s) none (L.take i)).map keyval ++ (if (lastB (aheadE L i) e s && !e.2.2.1) = true then [keyval e] else []) := by
  rw [pickF_step h, List.map_append]
  unfold seenK aheadE
  split <;> split <;> simp_all
end Go.Proofs.Ytcffpkflijpdjaa
namespace Go.Proofs.Ytcffpkflijpdjaa
open Go.RowKit
/-- Pairs of some entries, or the refusal. -/
def PPick (ok : Bool) (P : List Pr) (l : List En) (w : World) (e : Ending) (w' : World) : Prop := ∃ (l' : List Bp) (A' : Option Addr) (n' c' : Nat), e = .returned (.tuple #[.slice A' n' c', .int .i64 (if ok = true then 0 else 30)]) ∧ l'.length = n' ∧ rds l' = (if ok = true then P else []) ∧ (∀ p ∈ l', ∃ q ∈ l, p = ⟨q.k, q.v⟩) ∧ Prow w' w.heap.size A' c' l' ∧ Below w.heap.size w w'
set_option maxRecDepth 100000 in
set_option maxHeartbeats 8000000 in
theorem refVisible_any (A : Option Addr) (l : List En) (n c : Nat) (s : Int) (w : World) (hn : l.length = n) (h : Lies w A (evals l)) (hi : EIns w l) (hl : n * 64 ≤ 140737488351232) (hk : ∀ q ∈ l, q.k.l.length ≤ 281474976710656) :
    Calls Try.prog 31 #[.slice A n c, .int .i64 s] w (PPick (decide (OrdL (ers l))) (visE s (ers l)) l w) := by
  have HMS := Lib.hid (refOrdered_any A l n c w hn h hi (by omega) hk)
  obtain ⟨od, hod⟩ : ∃ od, decide (OrdL (ers l)) = od := ⟨_, rfl⟩
  rw [hod] at HMS ⊢
  have HP := Lib.hid (fun (w' : World) (hb : Below w.heap.size w w') => h.kept hb)
  have HI := Lib.hid (fun (w' : World) (hb : Below w.heap.size w w') => hi.kept hb)
  have HN := Lib.hid hn
  have HL9 := Lib.hid hl
  clear h hi hn hk hod
  cases od
  · go_enter Try.func31, Try.ntmps31
    go_wp2_with (go_at_call 35; refine HMS.out.mono ?_; rintro e w2 ⟨rfl, b2⟩; have B2 := Lib.hid b2; clear b2)
    go_ret2
    exact ⟨[], none, 0, 0, rfl, rfl, rfl, (fun _ h => by cases h), Prow.nil _ _, B2.out⟩
  go_enter Try.func31, Try.ntmps31
  go_wp2_with (go_at_call 35; refine HMS.out.mono ?_; rintro e w2 ⟨rfl, b2⟩; have B2 := Lib.hid b2; clear b2)
  go_loopw [6, 13] (fun t6 t13 wr => ∃ (k j : Nat) (A2 : Option Addr) (c2 : Nat) (l' : List Bp), k ≤ n ∧ t13 = .int .i64 k ∧ t6 = .slice A2 j c2 ∧ Hid (l'.length = j ∧ j ≤ k) ∧ Hid (rds l' = (pickF (seenK s) none ((ers l).take k)).map keyval) ∧ Hid (∀ p ∈ l', ∃ q ∈ l, p = ⟨q.k, q.v⟩) ∧ Hid (Prow wr w.heap.size A2 c2 l') ∧ Hid (Below w.heap.size w wr)) (fun _ t13 _ => n - (intOf t13).toNat)
  case atStart => exact ⟨0, 0, none, 0, [], by omega, rfl, rfl, Lib.hid ⟨rfl, Nat.le_refl _⟩, Lib.hid rfl, Lib.hid (fun _ h => by cases h), Lib.hid (Prow.nil _ _), B2⟩
  case round =>
    obtain ⟨k, j, A2, c2, l', hk, rfl, rfl, hl2, hr, hm, r2, b2⟩ := hrel
    by_cases hlt : k < n
    · have hq := List.getElem?_eq_getElem (l := l) (i := k) (by have := HN.out; omega)
      generalize l[k]'(by have := HN.out; omega) = x at hq
      obtain ⟨ad, rfl, a0, a1, a2, a3⟩ := lies_entry (HP.out _ b2.out) hq
      have hmem := List.mem_of_getElem? hq
      have HX := Lib.hid (fun (w' : World) (hb : Below w.heap.size w w') => HI.out w' hb x hmem)
      have HQ := Lib.hid hq
      have HMEM := Lib.hid hmem
      have HST : Hid (∀ s, (pickF (seenK s) none ((ers l).take (k + 1))).map keyval = (pickF (seenK s) none ((ers l).take k)).map keyval ++ (if (lastB (aheadE (ers l) k) x.rd s && !x.d) = true then [keyval x.rd] else [])) := Lib.hid (fun s => vis_step (ers_get hq))
      obtain ⟨m, hm2⟩ : ∃ m, x.k.l.length = m := ⟨_, rfl⟩
      obtain ⟨z, hz2⟩ : ∃ z, x.v.l.length = z := ⟨_, rfl⟩
      rw [hm2] at a0
      rw [hz2] at a3
      have HM2 := Lib.hid (And.intro hm2 hz2)
      have k0 : (k : Int) < n := by omega
      have WS : Hid (w.heap.size ≤ wr.heap.size) := Lib.hid b2.out.size
      have HA : Hid (∀ W, Below w.heap.size w W → W.cell? (ad.add (k * 4)) = some (.slice x.k.a m x.k.c) ∧ W.cell? ⟨(ad.add (k * 4)).block, (ad.add (k * 4)).off + 1, none⟩ = some (.int .i64 x.s) ∧ W.cell? ⟨(ad.add (k * 4)).block, (ad.add (k * 4)).off + 2, none⟩ = some (.bool x.d) ∧ W.cell? ⟨(ad.add (k * 4)).block, (ad.add (k * 4)).off + 3, none⟩ = some (.slice x.v.a z x.v.c)) := Lib.hid (fun W hb => by
        have := lies_entry_at (HP.out W hb) HQ.out
        unfold AtE at this
        rwa [HM2.out.1, HM2.out.2] at this)
      clear hq hm2 hz2 hmem
      obtain ⟨sk, hsk⟩ : ∃ sk, skipB (aheadE (ers l) k) x.rd s = sk := ⟨_, rfl⟩
      have HSK := Lib.hid hsk
      clear hsk
      go_upto_region 7 with fail
      go_cut [43] from 16 to 43 (fun t43 wx => t43 = .bool sk ∧ ∃ q, wx = wr.drewN q)
      case first =>
        obtain h0 | ⟨i, hik⟩ : k = 0 ∨ ∃ i, k = i + 1 := by
          cases k with
          | zero => exact .inl rfl
          | succ i => exact .inr ⟨i, rfl⟩
        · have d0 : decide ((0 : Int) < k) = false := decide_eq_false (by omega)
          have d0n : decide (0 < k) = false := decide_eq_false (by omega)
          have d0m : ¬ (0 : Int) < k := by omega
          have d0k : ¬ 0 < k := by omega
          have HS : Hid (sk = false) := Lib.hid (by rw [← HSK.out, aheadE, if_pos h0]; rfl)
          clear h0
          go_quiet (fail)
          go_wp2_with fail
          go_meet
          exact ⟨by rw [HS.out], _, rfl⟩
        have d0 : (0 : Int) < k := by omega
        have d0n : 0 < k := by omega
        have hp := List.getElem?_eq_getElem (l := l) (i := i) (by have := HN.out; omega)
        generalize l[i]'(by have := HN.out; omega) = p at hp
        have e1 : aheadE (ers l) k = some p.rd := by rw [aheadE, if_neg (by omega), show k - 1 = i by omega]; exact ers_get hp
        obtain ⟨b0, b1, -, -⟩ := lies_entry_at (HP.out _ b2.out) hp
        have IP := HI.out wr b2.out p (List.mem_of_getElem? hp)
        have IX := HX.out wr b2.out
        have w1 : wrap64 ((k : Int) - 1) = (i : Int) := by unfold wrap64; omega
        have w2 : IntKind.i64.wrap ((k : Int) - 1) = (i : Int) := by rw [IntKind.wrap_i64]; omega
        have j0 : (i : Int) < n := by omega
        obtain ⟨pn, hpn⟩ : ∃ m, p.k.l.length = m := ⟨_, rfl⟩
        rw [hpn] at b0
        have C0 := conv_drew IP.1.bys pn p.k.c hpn
        have C1 := conv_drew IX.1.bys m x.k.c HM2.out.1
        have hE := toList_dec IP.1.byt IX.1.byt
        have HS : Hid (sk = (decide (p.k.l = x.k.l) && decide (p.s ≤ s))) := Lib.hid (by rw [← HSK.out, e1]; rfl)
        clear hp e1 IP IX hpn hik
        by_cases he : p.k.l = x.k.l
        · rw [decide_eq_true he] at hE HS
          by_cases hs : p.s ≤ s
          · have d1 : decide (p.s ≤ s) = true := decide_eq_true hs
            rw [d1] at HS
            clear he hs
            go_quiet (fail)
            go_wp2_with fail
            go_meet
            exact ⟨by rw [HS.out]; rfl, _, rfl⟩
          · have d1 : decide (p.s ≤ s) = false := decide_eq_false hs
            rw [d1] at HS
            clear he hs
            go_quiet (fail)
            go_wp2_with fail
            go_meet
            exact ⟨by rw [HS.out]; rfl, _, rfl⟩
        · rw [decide_eq_false he] at hE HS
          clear he
          go_quiet (fail)
          go_wp2_with fail
          go_meet
          exact ⟨by rw [HS.out]; rfl, _, rfl⟩
      case rest =>
        obtain ⟨rfl, qc, hwc⟩ := hcut
        have BC : Hid (Below wr.heap.size wr wc) := Lib.hid (by rw [hwc]; exact below_drewN (Below.refl _ _) qc)
        have WC : Hid (Below w.heap.size w wc) := Lib.hid (b2.out.trans (BC.out.mono WS.out))
        clear hwc a0 a1 a2 a3
        obtain ⟨a0, a1, a2, a3⟩ := HA.out wc WC.out
        have HLS : Hid (lastB (aheadE (ers l) k) x.rd s = (decide (x.s ≤ s) && !sk)) := Lib.hid (by rw [last_skip, HSK.out]; rfl)
        cases sk
        · by_cases hs : x.s ≤ s
          · have d1 : decide (x.s ≤ s) = true := decide_eq_true hs
            rw [d1] at HLS
            clear hs
            obtain ⟨d, hd⟩ : ∃ d, x.d = d := ⟨_, rfl⟩
            rw [hd] at a2
            have HD := Lib.hid hd
            clear hd
            cases d
            · have BB := Lib.hid (Below.refl wc.heap.size wc)
              have HC6 : Hid (∀ W, Below w.heap.size w W → W.cell? (ad.add (k * 4)) = some (.slice x.k.a m x.k.c) ∧ W.cell? ⟨(ad.add (k * 4)).block, (ad.add (k * 4)).off + 3, none⟩ = some (.slice x.v.a z x.v.c)) := Lib.hid (fun W hb => ⟨(HA.out W hb).1, (HA.out W hb).2.2.2⟩)
              go_upto_region 9 with fail
              clear a0 a1 a2 a3
              have RR : Hid (Prow wc w.heap.size A2 c2 l') := Lib.hid (r2.out.kept BC.out (Nat.le_refl _))
              have WS6 : Hid (w.heap.size ≤ wc.heap.size) := Lib.hid WC.out.size
              go_region_held3 (fun W => W.cell? (ad.add (k * 4)) = some (.slice x.k.a m x.k.c) ∧ W.cell? ⟨(ad.add (k * 4)).block, (ad.add (k * 4)).off + 3, none⟩ = some (.slice x.v.a z x.v.c)) (first | exact HC6.out _ CB.out | (refine HC6.out _ (WC.out.trans (Below.mono ?_ WS6.out)); (repeat (first | with_reducible exact BB.out | with_reducible exact Below.refl _ _ | with_reducible refine Below.drew ?_ | with_reducible refine below_al ?_ _)); done) | go_keep) (first
                | (refine step_append_prow _ (by rfl) (.tmp 59) (.tmp 71) (by rfl) w.heap.size A2 c2 l' [⟨x.k, x.v⟩] _ j 1 1 rfl rfl hl2.out.1 rfl ?_ ?_ ?_ ?_ ?_; (refine RR.out.kept ?_ (Nat.le_refl _); (repeat (first | with_reducible exact BB.out | with_reducible exact Below.refl _ _ | with_reducible refine Below.drew ?_ | with_reducible refine below_al ?_ _))); (refine lit_pair _ x.k.a x.v.a x.k.c x.v.c x.k.l x.v.l m z HM2.out.1 HM2.out.2); (have := WS6.out; have := BB.out.size; first | omega | (simp; omega) | (simp only [drew_size, World.size_alloc]; omega)); (have := hl2.out; have := HL9.out; simp only [List.length_singleton]; omega); intro A8 c8 w9 r8 b8 g8; have R8 := Lib.hid r8; have CB : Hid (Below w.heap.size w w9) := Lib.hid ((WC.out.trans ((by repeat (first | with_reducible exact BB.out | with_reducible exact Below.refl _ _ | with_reducible refine Below.drew ?_ | with_reducible refine below_al ?_ _) : Below wc.heap.size wc _).mono WS6.out)).trans b8); clear r8 b8 g8))
              all_goals
                go_wp2_with fail
                go_roundw
                case rel => exact ⟨k + 1, j + 1, A8, c8, l' ++ [⟨x.k, x.v⟩], by omega, by go_num, rfl, Lib.hid ⟨by rw [List.length_append, hl2.out.1]; rfl, by have := hl2.out; omega⟩, Lib.hid (by rw [rds_append, hr.out, HST.out, HLS.out, HD.out]; rfl), Lib.hid (fun p hp => (List.mem_append.1 hp).elim (hm.out p) (fun hp => ⟨x, HMEM.out, List.mem_singleton.1 hp⟩)), Lib.hid R8.out, CB⟩
                case measure => simp [intOf]; omega
            · go_wp2_with fail
              go_roundw
              case rel => exact ⟨k + 1, j, A2, c2, l', by omega, by go_num, rfl, Lib.hid ⟨hl2.out.1, by have := hl2.out; omega⟩, Lib.hid (by rw [HST.out, HD.out, hr.out]; simp), hm, Lib.hid (r2.out.kept BC.out (Nat.le_refl _)), WC⟩
              case measure => simp [intOf]; omega
          · have d1 : decide (x.s ≤ s) = false := decide_eq_false hs
            rw [d1] at HLS
            clear hs
            go_wp2_with fail
            go_roundw
            case rel => exact ⟨k + 1, j, A2, c2, l', by omega, by go_num, rfl, Lib.hid ⟨hl2.out.1, by have := hl2.out; omega⟩, Lib.hid (by rw [HST.out, HLS.out, hr.out]; simp), hm, Lib.hid (r2.out.kept BC.out (Nat.le_refl _)), WC⟩
            case measure => simp [intOf]; omega
        · go_wp2_with fail
          go_roundw
          case rel => exact ⟨k + 1, j, A2, c2, l', by omega, by go_num, rfl, Lib.hid ⟨hl2.out.1, by have := hl2.out; omega⟩, Lib.hid (by rw [HST.out, HLS.out, hr.out]; simp), hm, Lib.hid (r2.out.kept BC.out (Nat.le_refl _)), WC⟩
          case measure => simp [intOf]; omega
    · obtain rfl : k = n := by omega
      have hr' := hr.out
      rw [List.take_of_length_le (by rw [ers_len]; have := HN.out; omega)] at hr'
      have HR := Lib.hid hr'
      clear hr'
      go_wp2_with fail
      go_ret2
      exact ⟨l', _, _, _, rfl, hl2.out.1, HR.out, hm.out, r2.out, b2.out⟩
end Go.Proofs.Ytcffpkflijpdjaa
namespace Go.Proofs.Ytcffpkflijpdjaa
open Go.RowKit
set_option maxRecDepth 100000 in
set_option maxHeartbeats 4000000 in
theorem refSameP_any (A A' : Option Addr) (l l' : List Bp) (n n' c c' : Nat) (w : World) (hn : l.length = n) (hn' : l'.length = n') (h : Lies w A (pvals l)) (h' : Lies w A' (pvals l')) (hi : Ins w l) (hi' : Ins w l') (hl : n * 48 ≤ 140737488351232) (hl' : n' * 48 ≤ 140737488351232) :
    Calls Try.prog 32 #[.slice A n c, .slice A' n' c'] w fun e w' => e = .returned (.bool (decide (rds l = rds l'))) ∧ ∃ k, w' = w.drewN k := by
  obtain ⟨b, hb⟩ : ∃ b, decide (rds l = rds l') = b := ⟨_, rfl⟩
  rw [hb]
  have HB := Lib.hid hb
  have HP := Lib.hid (And.intro h h')
  have HI := Lib.hid (And.intro hi hi')
  have HN := Lib.hid (And.intro hn hn')
  clear h h' hi hi' hb hn hn'
  by_cases hnn : n = n'
  · subst hnn
    go_enter Try.func32, Try.ntmps32
    go_wp2_with fail
    go_loopw [13] (fun t13 wr => ∃ k x : Nat, k ≤ n ∧ t13 = .int .i64 k ∧ wr = w.drewN x ∧ Hid ((rds l).take k = (rds l').take k)) (fun t13 _ => n - (intOf t13).toNat)
    case atStart => exact ⟨0, 0, by omega, rfl, rfl, Lib.hid rfl⟩
    case round =>
      obtain ⟨k, dr, hk, rfl, rfl, hr⟩ := hrel
      by_cases hlt : k < n
      · have hq := List.getElem?_eq_getElem (l := l) (i := k) (by have := HN.out.1; omega)
        generalize l[k]'(by have := HN.out.1; omega) = x at hq
        have hq' := List.getElem?_eq_getElem (l := l') (i := k) (by have := HN.out.2; omega)
        generalize l'[k]'(by have := HN.out.2; omega) = y at hq'
        obtain ⟨ad, rfl, a0, a1⟩ := lies_pair HP.out.1 hq
        obtain ⟨ad', rfl, b0, b1⟩ := lies_pair HP.out.2 hq'
        obtain ⟨X1, X2⟩ := HI.out.1 x (List.mem_of_getElem? hq)
        obtain ⟨Y1, Y2⟩ := HI.out.2 y (List.mem_of_getElem? hq')
        have HQ := Lib.hid (And.intro (rds_get hq) (rds_get hq'))
        clear hq hq'
        obtain ⟨⟨xka, xkc, xk⟩, ⟨xva, xvc, xv⟩⟩ := x
        obtain ⟨⟨yka, ykc, yk⟩, ⟨yva, yvc, yv⟩⟩ := y
        simp only at a0 a1 b0 b1 X1 X2 Y1 Y2
        have C0 := conv_drew X1.bys xk.length xkc rfl
        have C1 := conv_drew Y1.bys yk.length ykc rfl
        have C2 := conv_drew X2.bys xv.length xvc rfl
        have C3 := conv_drew Y2.bys yv.length yvc rfl
        have HS := Lib.hid (str_of_inj X1.byt Y1.byt)
        have HT := Lib.hid (str_of_inj X2.byt Y2.byt)
        clear X1 X2 Y1 Y2
        obtain ⟨m, hm⟩ : ∃ m, xk.length = m := ⟨_, rfl⟩
        obtain ⟨m', hm'⟩ : ∃ m, yk.length = m := ⟨_, rfl⟩
        obtain ⟨z, hz⟩ : ∃ m, xv.length = m := ⟨_, rfl⟩
        obtain ⟨z', hz'⟩ : ∃ m, yv.length = m := ⟨_, rfl⟩
        rw [hm] at a0 C0
        rw [hm'] at b0 C1
        rw [hz] at a1 C2
        rw [hz'] at b1 C3
        clear hm hm' hz hz'
        by_cases e1 : xk = yk
        · subst e1
          by_cases e2 : xv = yv
          · subst e2
            have HR := Lib.hid (rd_same HQ.out.1 HQ.out.2 rfl hr.out)
            go_upto_region 6 with fail
            go_quiet (fail)
            go_wp2_with fail
            go_roundw
            case rel => exact ⟨k + 1, _, by omega, by go_num, rfl, HR⟩
            case measure => simp [intOf]; omega
          · have d2 : ((strOfNums xv).toList == (strOfNums yv).toList) = false := toList_ne (fun e => e2 (HT.out.1 e))
            have HV : Hid (b = false) := Lib.hid (by rw [← HB.out]; exact rd_differ HQ.out.1 HQ.out.2 (fun e => e2 (congrArg (fun p => p.2) e)))
            clear e2
            go_upto_region 6 with fail
            go_quiet (fail)
            go_wp2_with fail
            go_ret
            rw [HV.out]
            exact ⟨rfl, _, by first | rfl | exact drew2 _ _ _⟩
        · have d1 : ((strOfNums xk).toList == (strOfNums yk).toList) = false := toList_ne (fun e => e1 (HS.out.1 e))
          have HV : Hid (b = false) := Lib.hid (by rw [← HB.out]; exact rd_differ HQ.out.1 HQ.out.2 (fun e => e1 (congrArg (fun p => p.1) e)))
          clear e1
          go_upto_region 6 with fail
          go_quiet (fail)
          go_wp2_with fail
          go_ret
          rw [HV.out]
          exact ⟨rfl, _, by first | rfl | exact drew2 _ _ _⟩
      · obtain rfl : k = n := by omega
        have hr' := hr.out
        rw [List.take_of_length_le (by rw [rds_len]; have := HN.out.1; omega), List.take_of_length_le (by rw [rds_len]; have := HN.out.2; omega)] at hr'
        have HV : Hid (b = true) := Lib.hid (by rw [← HB.out]; simpa using hr')
        clear hr' hr
        go_wp2_with fail
        go_ret
        rw [HV.out]
        exact ⟨rfl, _, rfl⟩
  · have d0 : ((n : Int) != n') = true := by simp; omega
    have HV : Hid (b = false) := Lib.hid (by rw [← HB.out]; simp; intro e; have := congrArg List.length e; rw [rds_len, rds_len] at this; have := HN.out; omega)
    go_enter Try.func32, Try.ntmps32
    go_wp2_with fail
    go_ret
    rw [HV.out]
    exact ⟨rfl, 0, rfl⟩
end Go.Proofs.Ytcffpkflijpdjaa
namespace Go.Proofs.Ytcffpkflijpdjaa
open Go.RowKit
theorem refVisible_ef {w : World} {A : Option Addr} {l : List En} {n c : Nat} (s : Int) (h : EF w A l n c) : Calls Try.prog 31 #[.slice A n c, .int .i64 s] w (PPick (decide (OrdL (ers l))) (visE s (ers l)) l w) :=
  refVisible_any A l n c s w h.len h.lies h.ins h.few (fun q hq => by have := (h.longs q hq).1; omega)
end Go.Proofs.Ytcffpkflijpdjaa
namespace Go.Proofs.Ytcffpkflijpdjaa
open Go.RowKit
/-- What is answered of a list that may not be. -/
def visA (s : Int) (L : List Er) : Int × List Pr := if decide (OrdL L) = true then (0, visE s L) else (30, [])
def PRef (r : Int × List Pr) (l : List En) (w : World) (e : Ending) (w' : World) : Prop := ∃ (l' : List Bp) (A' : Option Addr) (n' c' : Nat), e = .returned (.tuple #[.slice A' n' c', .int .i64 r.1]) ∧ l'.length = n' ∧ rds l' = r.2 ∧ (∀ p ∈ l', ∃ q ∈ l, p = ⟨q.k, q.v⟩) ∧ Prow w' w.heap.size A' c' l' ∧ Below w.heap.size w w'
theorem refVisible_r {w : World} {A : Option Addr} {l : List En} {n c : Nat} {s : Int} {L : List Er} {r : Int × List Pr} (h : EF w A l n c) (he : ers l = L) (hr : visA s L = r) : Calls Try.prog 31 #[.slice A n c, .int .i64 s] w (PRef r l w) :=
  (refVisible_ef s h).mono fun e w' hc => by
    rw [he] at hc
    subst hr
    unfold visA
    obtain ⟨l', A', n', c', h1, h2, h3, h4, h5, h6⟩ := hc
    cases hd : decide (OrdL L) <;> rw [hd] at h1 h3 <;> exact ⟨l', A', n', c', h1, h2, h3, h4, h5, h6⟩
theorem visA_byt {s : Int} {L : List Er} (h : ∀ p ∈ L, ErB p) : ∀ p ∈ (visA s L).2, PrB p := fun p hp => by
  unfold visA at hp
  split at hp
  · obtain ⟨q, hq, rfl⟩ := List.mem_map.1 hp
    exact h q ((pickF_sub _ _ _).subset hq)
  · cases hp
/-- Pairs that are alike are told so. -/
theorem samePairs {w : World} {A B : Option Addr} {l m : List Bp} {n c n' c' : Nat} (hn : l.length = n) (hn' : m.length = n') (h1 : Lies w A (pvals l)) (h2 : Lies w B (pvals m)) (i1 : Ins w l) (i2 : Ins w m) (he : rds l = rds m) (hl : n * 64 ≤ 140737488351232) :
    Calls Try.prog 32 #[.slice A n c, .slice B n' c'] w fun e w' => e = .returned (.bool true) ∧ Below w.heap.size w w' := by
  have e : n = n' := by have := congrArg List.length he; rw [rds_len, rds_len] at this; omega
  refine (refSameP_any A B l m n n' c c' w hn hn' h1 h2 i1 i2 (by omega) (by omega)).mono ?_
  rintro e w' ⟨rfl, k, rfl⟩
  exact ⟨by rw [decide_eq_true he], below_drewN (Below.refl _ _) k⟩
end Go.Proofs.Ytcffpkflijpdjaa
namespace Go.Proofs.Ytcffpkflijpdjaa
open Go.RowKit
/-- Neighbours: the first is long enough, and its last key isn't the other's first. -/
def Seam (z : Int) (c d : List Er) : Prop := z ≤ c.length ∧ ∃ x y, c.getLast? = some x ∧ d.head? = some y ∧ x.1 ≠ y.1
def SeamL (z : Int) : List (List Er) → Prop
  | c :: d :: P => Seam z c d ∧ SeamL z (d :: P)
  | _ => True
theorem seam_snoc {z : Int} {d : List Er} : ∀ {P : List (List Er)} {c : List Er}, SeamL z (P ++ [c]) → Seam z c d → SeamL z (P ++ [c, d])
  | [], c, _, h => ⟨h, trivial⟩
  | [e], c, h, k => ⟨h.1, k, trivial⟩
  | e :: f :: P, c, h, k => ⟨h.1, seam_snoc (P := f :: P) h.2 k⟩
theorem seam_last {z : Int} {c d : List Er} (hd : c.head? = d.head?) : ∀ {P : List (List Er)}, SeamL z (P ++ [c]) → SeamL z (P ++ [d])
  | [], _ => trivial
  | [e], h => ⟨⟨h.1.1, by obtain ⟨x, y, h1, h2, h3⟩ := h.1.2; exact ⟨x, y, h1, hd ▸ h2, h3⟩⟩, trivial⟩
  | e :: f :: P, h => ⟨h.1, seam_last hd (P := f :: P) h.2⟩
theorem goC_inv (z : Int) (L : List Er) : ((goC z L).2 = [] → (goC z L).1 = []) ∧ (∀ c ∈ (goC z L).1, c ≠ []) ∧ SeamL z ((goC z L).1 ++ [(goC z L).2]) := by
  suffices h : ∀ (L : List Er) (s : List (List Er) × List Er), ((s.2 = [] → s.1 = []) ∧ (∀ c ∈ s.1, c ≠ []) ∧ SeamL z (s.1 ++ [s.2])) → (((L.foldl (stepC z) s).2 = [] → (L.foldl (stepC z) s).1 = []) ∧ (∀ c ∈ (L.foldl (stepC z) s).1, c ≠ []) ∧ SeamL z ((L.foldl (stepC z) s).1 ++ [(L.foldl (stepC z) s).2])) from
    h L ([], []) ⟨fun _ => rfl, (fun c hc => by cases hc), trivial⟩
  intro L
  induction L with
  | nil => intro s hs; exact hs
  | cons x L ih =>
    intro s hs
    rw [List.foldl_cons]
    refine ih _ ?_
    obtain ⟨h1, h2, h3⟩ := hs
    unfold stepC
    split
    · next hc =>
      unfold cutB at hc
      rw [Bool.and_eq_true] at hc
      obtain ⟨hz, hk⟩ := hc
      cases hg : s.2.getLast? with
      | none => rw [hg] at hk; cases hk
      | some y =>
        rw [hg] at hk
        have hne : s.2 ≠ [] := fun e => by rw [e] at hg; cases hg
        refine ⟨(fun h => by cases h), fun c hc => ?_, ?_⟩
        · rcases List.mem_append.1 hc with hc | hc
          · exact h2 c hc
          · rw [List.mem_singleton.1 hc]; exact hne
        · show SeamL z ((s.1 ++ [s.2]) ++ [[x]])
          rw [List.append_assoc]
          exact seam_snoc h3 ⟨of_decide_eq_true hz, y, x, hg, rfl, by simpa using hk⟩
    · refine ⟨fun h => by simp at h, h2, ?_⟩
      by_cases he : s.2 = []
      · show SeamL z (s.1 ++ [s.2 ++ [x]])
        rw [h1 he]
        trivial
      · exact seam_last (by
          cases hs2 : s.2 with
          | nil => exact absurd hs2 he
          | cons y r => rfl) h3
theorem cutC_inv (z : Int) (L : List Er) : (∀ c ∈ cutC z L, c ≠ []) ∧ SeamL z (cutC z L) := by
  obtain ⟨h1, h2, h3⟩ := goC_inv z L
  unfold cutC finC
  split
  · next h => rw [h1 h]; exact ⟨(fun c hc => by cases hc), trivial⟩
  · next h =>
    refine ⟨fun c hc => ?_, h3⟩
    rcases List.mem_append.1 hc with hc | hc
    · exact h2 c hc
    · rw [List.mem_singleton.1 hc]; exact h
theorem seam_at {z : Int} : ∀ {P : List (List Er)} {i : Nat} {c d : List Er}, SeamL z P → P[i]? = some c → P[i + 1]? = some d → Seam z c d
  | [], _, _, _, _, h, _ => by cases h
  | [e], 0, _, _, _, _, h => by cases h
  | [e], i + 1, _, _, _, h, _ => by simp at h
  | e :: f :: P, 0, c, d, hs, h, k => by
    simp at h k
    subst h k
    exact hs.1
  | e :: f :: P, i + 1, c, d, hs, h, k => seam_at (P := f :: P) (i := i) hs.2 (by simpa using h) (by simpa using k)
theorem take_last {P : List (List Er)} {i : Nat} {c : List Er} {x : Er} (hc : P[i]? = some c) (hx : c.getLast? = some x) : (P.take (i + 1)).flatten.getLast? = some x := by
  rw [List.take_add_one, hc, List.flatten_append]
  simp [List.getLast?_append, hx]
end Go.Proofs.Ytcffpkflijpdjaa
namespace Go.Proofs.Ytcffpkflijpdjaa
open Go.RowKit
theorem visA_ok {s : Int} {L : List Er} (h : OrdL L) : visA s L = (0, visE s L) := by unfold visA; rw [if_pos (decide_eq_true h)]
theorem quarter (m : Int) : 0 ≤ wrap64 (IntKind.u64.wrap m / 4) ∧ wrap64 (IntKind.u64.wrap m / 4) < 4611686018427387904 := by
  have h1 : 0 ≤ IntKind.u64.wrap m ∧ IntKind.u64.wrap m < 18446744073709551616 := by
    unfold IntKind.wrap
    simp [IntKind.signed, IntKind.bits]
    omega
  unfold wrap64
  omega
theorem quarters (m s : Int) : wrap64 (IntKind.u64.wrap m / 4) ≤ wrap64 (wrap64 (IntKind.u64.wrap m / 4) + wrap64 (IntKind.u64.wrap s / 4)) := by
  have h1 := quarter m
  have h2 := quarter s
  generalize wrap64 (IntKind.u64.wrap m / 4) = a at h1 ⊢
  generalize wrap64 (IntKind.u64.wrap s / 4) = b at h2 ⊢
  unfold wrap64
  omega
end Go.Proofs.Ytcffpkflijpdjaa
namespace Go.Proofs.Ytcffpkflijpdjaa
open Go.RowKit
theorem ninth (z : Int) : 1 ≤ wrap64 (1 + wrap64 ((IntKind.u64.wrap z).tmod 9)) ∧ wrap64 (1 + wrap64 ((IntKind.u64.wrap z).tmod 9)) ≤ 9 := by
  have h1 : 0 ≤ IntKind.u64.wrap z := by
    unfold IntKind.wrap
    simp [IntKind.signed, IntKind.bits]
    omega
  rw [Int.tmod_eq_emod_of_nonneg h1]
  generalize IntKind.u64.wrap z = y
  unfold wrap64
  omega
theorem last_get {L : List En} {p : Nat} (hp : L.length = p + 1) {y : En} (hy : L[p]? = some y) : (ers L).getLast? = some y.rd := by
  rw [List.getLast?_eq_getElem?, ers_len, hp]
  exact ers_get hy
theorem head_get {L : List En} {y : En} (hy : L[0]? = some y) : (ers L).head? = some y.rd := by
  rw [List.head?_eq_getElem?]
  exact ers_get hy
theorem wrap_small {p : Int} (h : 0 ≤ p) (h9 : p ≤ 140737488351233) : wrap64 p = p ∧ IntKind.i64.wrap p = p := by
  refine ⟨?_, ?_⟩
  · unfold wrap64; omega
  · rw [IntKind.wrap_i64]; omega
/-- What a walk wants of the pieces while it puts them in one row. -/
structure PieS (w : World) (A : Option Addr) (T : List Gl) (n : Nat) (z : Int) (tot : Nat) : Prop where
  gs : Gs w A T n
  ne : ∀ c ∈ fl T, c ≠ []
  seam : SeamL z (fl T)
  tot : (fl T).flatten.length = tot
theorem PieS.few {w : World} {A : Option Addr} {T : List Gl} {n : Nat} {z : Int} {tot : Nat} (h : PieS w A T n z tot) {i : Nat} {g : Gl} (hg : T[i]? = some g) : ((fl T).take i).flatten.length + g.l.length ≤ tot := by
  have e := h.tot
  rw [← List.take_append_drop i (fl T), List.flatten_append, List.length_append] at e
  have hi := (List.getElem?_eq_some_iff.1 hg).1
  have hd : (fl T).drop i = ers g.l :: (fl T).drop (i + 1) := by
    rw [List.drop_eq_getElem_cons (by rw [fl_length]; exact hi)]
    have := fl_get hg
    rw [List.getElem?_eq_getElem (by rw [fl_length]; exact hi)] at this
    rw [Option.some.inj this]
  rw [hd, List.flatten_cons, List.length_append, ers_len] at e
  omega
set_option maxRecDepth 100000 in
set_option maxHeartbeats 16000000 in
theorem lawKeepsC (A : Option Addr) (Ls : List Gl) (n c : Nat) (m z s : Int) (b : Bool) (w : World) (h : LF w A Ls n c) :
    Calls Try.prog 13 #[.slice A n c, .agg #[.int .i64 m, .int .i64 z, .bool b], .int .i64 s] w fun e w' => e = .returned (.bool true) ∧ Below w.heap.size w w' := by
  have HH := Lib.hid h
  have HMQ := Lib.hid (quarters m s)
  have HZQ := Lib.hid (ninth z)
  clear h
  obtain ⟨w0, hw0⟩ : ∃ w0, w.alloc (.cells #[.int .i64 m, .int .i64 z, .bool b] 72) = w0 := ⟨_, rfl⟩
  have B0 : Hid (Below w.heap.size w w0 ∧ w0.heap.size = w.heap.size + 1) := Lib.hid ⟨hw0 ▸ below_new w _, by rw [← hw0]; simp⟩
  have HO : Hid (∀ W, Below w0.heap.size w0 W → W.heap[w.heap.size]? = some (.cells #[.int .i64 m, .int .i64 z, .bool b] 72 (0, 0))) := Lib.hid (fun W hb => (hb.block w.heap.size (by rw [← hw0]; simp)).trans (hw0 ▸ heap_alloc_new w _))
  go_enter Try.func13, Try.ntmps13
  go_upto_region 1 with fail
  try rw [hw0]
  clear hw0
  go_upto_region 3 with (go_at_call 37; refine (wakesC_any _).mono ?_; rintro e w1 ⟨rfl, hb⟩; have B1 : Hid (Below w0.heap.size w0 w1) := Lib.hid hb; clear hb)
  obtain ⟨c0, c1, c2⟩ := box_three (HO.out w1 B1.out)
  have f0 := froz w1 w.heap.size 0 _ _ (HO.out w1 B1.out)
  have f1 := froz w1 w.heap.size 1 _ _ (HO.out w1 B1.out)
  go_upto_region 4 with fail
  obtain ⟨M, hM⟩ : ∃ M, wrap64 (IntKind.u64.wrap m / 4) = M := ⟨_, rfl⟩
  obtain ⟨Z, hZ⟩ : ∃ Z, wrap64 (1 + wrap64 ((IntKind.u64.wrap z).tmod 9)) = Z := ⟨_, rfl⟩
  rw [hM] at HMQ ⊢
  rw [hZ] at HZQ ⊢
  clear hM hZ c0 c1 c2 f0 f1
  have ho := HO.out w1 B1.out
  obtain ⟨w2, hw2⟩ : ∃ w2, (w1.setCell ⟨w.heap.size, 0, none⟩ (.int .i64 M)).setCell ⟨w.heap.size, 1, none⟩ (.int .i64 Z) = w2 := ⟨_, rfl⟩
  have H2 : Hid (w2.heap[w.heap.size]? = some (.cells #[.int .i64 M, .int .i64 Z, .bool b] 72 (0, 0)) ∧ Below w.heap.size w w2) := Lib.hid ⟨by rw [← hw2]; exact heap_setCell_same _ w.heap.size 1 _ _ _ (heap_setCell_same w1 w.heap.size 0 _ _ _ ho), by
    have h1 : Below w.heap.size w w1 := below_then B0.out.1 B1.out
    exact h1.trans (by rw [← hw2]; exact (((Kp.refl (fun j => j ≠ w.heap.size) w1).set w.heap.size 0 (.int .i64 M) (by simp)).set w.heap.size 1 (.int .i64 Z) (by simp)).below (fun j hj => by omega))⟩
  try rw [hw2]
  clear hw2 ho B1
  have HC : Hid (∀ W, Below w2.heap.size w2 W → W.cell? ⟨w.heap.size, 0, none⟩ = some (.int .i64 M) ∧ W.cell? ⟨w.heap.size, 1, none⟩ = some (.int .i64 Z) ∧ W.cell? ⟨w.heap.size, 2, none⟩ = some (.bool b)) := Lib.hid (fun W hb => box_three ((hb.block _ (Array.getElem?_eq_some_iff.1 H2.out.1).1).trans H2.out.1))
  obtain ⟨c0, c1, c2⟩ := HC.out w2 (Below.refl _ _)
  go_upto_region 5 with fail
  clear c0 c1 c2
  obtain ⟨Q, hQ⟩ : ∃ Q, wrap64 (M + wrap64 (IntKind.u64.wrap s / 4)) = Q := ⟨_, rfl⟩
  rw [hQ] at HMQ ⊢
  clear hQ
  have RR : Hid (Below w2.heap.size w2 w2) := Lib.hid (Below.refl _ _)
  have HLI : Hid (∀ W, Below w2.heap.size w2 W → Calls Try.prog 41 #[.slice A n c] W fun e w' => ∃ (T : List Gl) (A' : Option Addr) (c' : Nat), e = .returned (.slice A' n c') ∧ Hid (fl T = fl Ls ∧ LF w' A' T n c' ∧ Below W.heap.size W w')) := Lib.hid (fun W hb => (listsC_lf (HH.out.kept (below_then H2.out.2 hb))).mono fun e w' hc => by
    obtain ⟨T, A', c', h1, h2, h3, -, -, h6⟩ := hc
    exact ⟨T, A', c', h1, Lib.hid ⟨h2, h3, h6⟩⟩)
  go_region_held3 (fun W => W.cell? ⟨w.heap.size, 0, none⟩ = some (.int .i64 M) ∧ W.cell? ⟨w.heap.size, 1, none⟩ = some (.int .i64 Z) ∧ W.cell? ⟨w.heap.size, 2, none⟩ = some (.bool b)) (first | exact HC.out _ RR.out | exact HC.out _ RR.out.drew | go_keep) (first
    | (go_at_call 41; refine (HLI.out _ (by first | exact RR.out | exact RR.out.drew)).mono ?_; rintro e w3 ⟨T2, A2, c2, rfl, E2⟩; have RR : Hid (Below w2.heap.size w2 w3) := Lib.hid (below_then (by first | exact RR.out | exact RR.out.drew) E2.out.2.2))
    | (go_at_call 40; refine (run_m M Z b (E2.out.2.1.kept (by first | exact Below.refl _ _ | exact (Below.refl _ _).drew)) E2.out.1).mono ?_; rintro e w4 ⟨T3, A3, j3, c3, er3, rfl, h1, h2, h3, h4, h5⟩; have E3 : Hid (T3.length = j3 ∧ RunAns (fl Ls) Z M b er3 (fl T3) ∧ GMades w4 w3.heap.size T3 ∧ Grow w4 w3.heap.size A3 c3 T3) := Lib.hid ⟨h1, h2, by first | exact h3 | exact h3.mono (by simp), by first | exact h4 | exact h4.mono (by simp)⟩; have RR : Hid (Below w2.heap.size w2 w4) := Lib.hid (below_then (by first | exact RR.out | exact RR.out.drew) h5); clear h1 h2 h3 h4 h5))
  all_goals
    have B4 : Hid (Below w.heap.size w w4) := Lib.hid (below_then H2.out.2 RR.out)
    go_upto_region 7 with (go_at_call 29; refine (refMerge_m (HH.out.kept B4.out) rfl).mono ?_; rintro e w5 ⟨R, A5, m5, c5, er5, rfl, h1, h2, h3, h4, h5⟩; have E5 : Hid (R.length = m5 ∧ AnsM (fl Ls) er5 (ers R) ∧ Lies w5 A5 (evals R) ∧ EIns w5 R ∧ Below w4.heap.size w4 w5) := Lib.hid ⟨h1, h2, h3, h4, h5⟩; clear h1 h2 h3 h4 h5)
    obtain ⟨rfl, hP⟩ : er3 = er5 ∧ fl T3 = cutC Z (thinE M b (ers R)) := by
      rcases E3.out.2.1 with ⟨hz, _⟩ | ⟨_, R', k1, k2⟩
      · have := HZQ.out; omega
      · obtain ⟨e1, e2⟩ := k1.one E5.out.2.1
        exact ⟨e1, by rw [k2, e2]⟩
    have HP := Lib.hid hP
    clear hP
    by_cases h0 : er3 = 0
    · subst h0
      have HOR : Hid (OrdL (ers R)) := Lib.hid E5.out.2.1.ok.2.1
      obtain ⟨RL, hRL⟩ : ∃ RL, ers R = RL := ⟨_, rfl⟩
      have ER : Hid (EF w5 A5 R m5 c5 ∧ ers R = RL) := Lib.hid ⟨HH.out.out E5.out.2.1 E5.out.1 E5.out.2.2.1 E5.out.2.2.2.1, hRL⟩
      obtain ⟨tot, htot⟩ : ∃ tot, (fl T3).flatten.length = tot := ⟨_, rfl⟩
      have HF : Hid ((fl T3).flatten = thinE M b RL) := Lib.hid (by rw [HP.out, cutC_all, hRL])
      have HM : Hid ((∀ x ∈ (fl T3).flatten, x ∈ (fl Ls).flatten) ∧ tot * 64 ≤ 140737488351232) := Lib.hid (by
        have h1 := runAns_mem E3.out.2.1
        have h2 := HH.out.tot
        rw [← flat_fl] at h2
        rw [htot] at h1
        exact ⟨h1.1, by have := h1.2; omega⟩)
      have B5 : Hid (Below w.heap.size w w5) := Lib.hid (below_then B4.out E5.out.2.2.2.2)
      have HPS : Hid (PieS w5 A3 T3 j3 Z tot) := Lib.hid (by
        have hi := cutC_inv Z (thinE M b (ers R))
        rw [← HP.out] at hi
        exact ⟨(E3.out.2.2.1.kept E5.out.2.2.2.2 (Nat.le_refl _)).gs E3.out.1 (E3.out.2.2.2.kept E5.out.2.2.2.2 (Nat.le_refl _)) (fun x hx => HH.out.byt x (HM.out.1 x hx)) (by rw [htot]; exact HM.out.2), hi.1, hi.2, htot⟩)
      have HJ9 : Hid (j3 ≤ tot) := Lib.hid (by
        have h1 := goC_few (thinE M b (ers R)) HZQ.out.1
        rw [← HP.out, fl_length, E3.out.1] at h1
        rw [← htot, HF.out, ← hRL]
        exact h1)
      have hj9 : j3 * 64 ≤ 140737488351232 := by have := HJ9.out; have := HM.out.2; omega
      have HCB : Hid (∀ W, Below w5.heap.size w5 W → W.cell? ⟨w.heap.size, 1, none⟩ = some (.int .i64 Z)) := Lib.hid (fun W hW => (HC.out W (below_then (below_then RR.out E5.out.2.2.2.2) hW)).2.1)
      clear hRL htot E3 E5 HP RR HC HLI E2
      go_wp2_with fail
      go_loopw [12, 69] (fun t12 t69 wr => ∃ (i p : Nat) (Ar : Option Addr) (cr : Nat) (L : List En), i ≤ j3 ∧ t69 = .int .i64 i ∧ t12 = .slice Ar p cr ∧ Hid (L.length = p ∧ ers L = ((fl T3).take i).flatten ∧ Erow wr w5.heap.size Ar cr L ∧ EIns w5 L ∧ Below w5.heap.size w5 wr)) (fun _ t69 _ => j3 - (intOf t69).toNat)
      case atStart => exact ⟨0, 0, none, 0, [], by omega, rfl, rfl, Lib.hid ⟨rfl, rfl, Erow.nil _ _, (fun q hq => by cases hq), Below.refl _ _⟩⟩
      case round =>
        obtain ⟨i, p, Ar, cr, L, hi, rfl, rfl, hr⟩ := hrel
        by_cases hlt : i < j3
        · have hq := List.getElem?_eq_getElem (l := T3) (i := i) (by have := HPS.out.gs.len; omega)
          generalize T3[i]'(by have := HPS.out.gs.len; omega) = g at hq
          have HQ := Lib.hid hq
          have HGI := Lib.hid (fun (W : World) (hW : Below w5.heap.size w5 W) => (HPS.out.gs.kept hW).each g (List.mem_of_getElem? hq))
          obtain ⟨ad, rfl, -⟩ := take_gvals HPS.out.gs.lies hq
          obtain ⟨gn, hgn⟩ : ∃ m, g.l.length = m := ⟨_, rfl⟩
          have HGN := Lib.hid hgn
          have HAD : Hid (∀ W, Below w5.heap.size w5 W → W.cell? (ad.add i) = some (.slice g.a gn g.c)) := Lib.hid (fun W hW => by
            obtain ⟨ad', e, h1⟩ := take_gvals (HPS.out.gs.kept hW).lies hq
            injection e with e
            subst e
            unfold Gl.val at h1
            rwa [hgn] at h1)
          have HNE : Hid (0 < gn) := Lib.hid (by
            have := HPS.out.ne (ers g.l) (List.mem_of_getElem? (fl_get hq))
            rw [← hgn, ← ers_len]
            exact List.length_pos_iff.2 this)
          have HFW : Hid (p + gn ≤ tot) := Lib.hid (by
            have h1 := HPS.out.few hq
            have h2 := congrArg List.length hr.out.2.1
            rw [ers_len, hr.out.1] at h2
            omega)
          have i0 : (i : Int) < j3 := by omega
          clear hq hgn
          go_upto_region 13 with fail
          go_cut [117] from 72 to 117 (fun t117 wx => t117 = .bool false ∧ ∃ q, wx = wr.drewN q)
          case first =>
            have a0 := HAD.out wr hr.out.2.2.2.2
            have cz := HCB.out wr hr.out.2.2.2.2
            have hg0 := HNE.out
            have dn : ((gn : Int) == 0) = false := beq_eq_false_iff_ne.2 (by omega)
            obtain ⟨w1, w2'⟩ := wrap_small (p := (i : Int) + 1) (by omega) (by omega)
            have HLT : Hid (i + 1 < j3 → ¬ (gn : Int) < Z) := Lib.hid (fun hl => by
              have hn := List.getElem?_eq_getElem (l := fl T3) (i := i + 1) (by rw [fl_length, HPS.out.gs.len]; exact hl)
              have := (seam_at HPS.out.seam (fl_get HQ.out) hn).1
              rw [ers_len, HGN.out] at this
              omega)
            obtain h0 | ⟨k, hik⟩ : i = 0 ∨ ∃ k, i = k + 1 := by
              cases i with
              | zero => exact .inl rfl
              | succ i => exact .inr ⟨i, rfl⟩
            · have d0 : decide ((0 : Int) < i) = false := decide_eq_false (by omega)
              have d0n : decide (0 < i) = false := decide_eq_false (by omega)
              have d0g : decide ((i : Int) > 0) = false := decide_eq_false (by omega)
              by_cases hl : i + 1 < j3
              · have d4 : decide ((i : Int) + 1 < j3) = true := decide_eq_true (by omega)
                have d5 : decide ((gn : Int) < Z) = false := decide_eq_false (HLT.out hl)
                clear hl h0
                go_quiet (fail)
                go_wp2_with fail
                go_meet
                exact ⟨rfl, _, rfl⟩
              · have d4 : decide ((i : Int) + 1 < j3) = false := decide_eq_false (by omega)
                clear hl h0
                go_quiet (fail)
                go_wp2_with fail
                go_meet
                exact ⟨rfl, _, rfl⟩
            · have d0 : decide ((0 : Int) < i) = true := decide_eq_true (by omega)
              have d0n : decide (0 < i) = true := decide_eq_true (by omega)
              have d0g : decide ((i : Int) > 0) = true := decide_eq_true (by omega)
              have hx := List.getElem?_eq_getElem (l := g.l) (i := 0) (by have := HGN.out; omega)
              generalize g.l[0]'(by have := HGN.out; omega) = x at hx
              have hpr := List.getElem?_eq_getElem (l := fl T3) (i := k) (by rw [fl_length, HPS.out.gs.len]; omega)
              generalize (fl T3)[k]'(by rw [fl_length, HPS.out.gs.len]; omega) = cp at hpr
              obtain ⟨-, e1, e2, s1, s2, s3⟩ := seam_at HPS.out.seam hpr (by rw [← hik]; exact fl_get HQ.out)
              have hlast : (ers L).getLast? = some e1 := by rw [hr.out.2.1, hik]; exact take_last hpr s1
              obtain ⟨p', rfl⟩ : ∃ p', p = p' + 1 := by
                cases p with
                | zero => have := List.eq_nil_of_length_eq_zero hr.out.1; rw [this] at hlast; cases hlast
                | succ p => exact ⟨p, rfl⟩
              have hy := List.getElem?_eq_getElem (l := L) (i := p') (by have := hr.out.1; omega)
              generalize L[p']'(by have := hr.out.1; omega) = y at hy
              have ey : y.rd = e1 := by rw [last_get hr.out.1 hy] at hlast; exact Option.some.inj hlast
              have ex : x.rd = e2 := by rw [head_get hx] at s2; exact Option.some.inj s2
              have hne : x.k.l ≠ y.k.l := fun e => s3 (by rw [← ey, ← ex]; exact e.symm)
              obtain ⟨gd, hgd, b0, -, -, -⟩ := lies_entry (HGI.out wr hr.out.2.2.2.2).1 hx
              obtain ⟨rd, hrd, b1, -, -, -⟩ := lies_entry hr.out.2.2.1.lies hy
              have e0 : gd.add (0 * 4) = gd := by cases gd; simp [Addr.add]
              rw [e0] at b0
              rw [hgd] at a0
              have IX := ((HGI.out wr hr.out.2.2.2.2).2.1 x (List.mem_of_getElem? hx)).1
              have IY := ((hr.out.2.2.2.1.kept hr.out.2.2.2.2) y (List.mem_of_getElem? hy)).1
              obtain ⟨xn, hxn⟩ : ∃ m, x.k.l.length = m := ⟨_, rfl⟩
              obtain ⟨yn, hyn⟩ : ∃ m, y.k.l.length = m := ⟨_, rfl⟩
              rw [hxn] at b0
              rw [hyn] at b1
              have C0 := conv_drew IX.bys xn x.k.c hxn
              have C1 := conv_drew IY.bys yn y.k.c hyn
              have hE := toList_dec IX.byt IY.byt
              rw [decide_eq_false hne] at hE
              have g1 : (0 : Int) < gn := by omega
              have p0 : (p' : Int) < (p' : Int) + 1 := by omega
              have w56 := wrap_small (p := (p' : Int)) (by omega) (by have := HFW.out; have := HM.out.2; omega)
              obtain ⟨w5', w6'⟩ := w56
              clear hx hy hpr s1 s2 s3 hlast ey ex hne e0 hik IX IY
              subst hrd
              by_cases hl : i + 1 < j3
              · have d4 : decide ((i : Int) + 1 < j3) = true := decide_eq_true (by omega)
                have d5 : decide ((gn : Int) < Z) = false := decide_eq_false (HLT.out hl)
                clear hl
                go_quiet (fail)
                go_wp2_with fail
                go_meet
                exact ⟨rfl, _, rfl⟩
              · have d4 : decide ((i : Int) + 1 < j3) = false := decide_eq_false (by omega)
                clear hl
                go_quiet (fail)
                go_wp2_with fail
                go_meet
                exact ⟨rfl, _, rfl⟩
          case rest =>
            obtain ⟨rfl, qc, hwc⟩ := hcut
            have BC : Hid (Below w5.heap.size w5 wc) := Lib.hid (by rw [hwc]; exact below_drewN hr.out.2.2.2.2 qc)
            have HRC : Hid (Erow wc w5.heap.size Ar cr L) := Lib.hid (by rw [hwc]; exact hr.out.2.2.1.kept (below_drewN (Below.refl _ wr) qc) (Nat.le_refl _))
            clear hwc
            have a0 := HAD.out wc BC.out
            go_wp2_with (at_builtin; refine wpList_append_erow _ (by rfl) (.tmp 118) (.tmp 122) (by rfl) w5.heap.size Ar cr L g.l g.a p gn g.c (by first | rfl | (simp [Act.eval]; done)) (by first | rfl | (simp [Act.eval]; done)) hr.out.1 HGN.out HRC.out (HGI.out _ BC.out).1 (by have := BC.out.size; omega) (by have := hr.out.1; have := HGN.out; have := HFW.out; have := HM.out.2; omega) ?_; intro A8 c8 w8 r8 b8 g8; have H8 : Hid (Erow w8 w5.heap.size A8 c8 (L ++ g.l) ∧ Below w5.heap.size w5 w8) := Lib.hid ⟨r8, BC.out.trans b8⟩; clear r8 b8 g8)
            go_roundw
            case rel => exact ⟨i + 1, p + gn, A8, c8, L ++ g.l, by omega, by go_num, rfl, Lib.hid ⟨by rw [List.length_append, hr.out.1, HGN.out], by rw [ers_append, hr.out.2.1, List.take_add_one, fl_get HQ.out, List.flatten_append]; simp, H8.out.1, fun q hq => (List.mem_append.1 hq).elim (hr.out.2.2.2.1 q) (fun hq => (HGI.out w5 (Below.refl _ _)).2.1 q hq), H8.out.2⟩⟩
            case measure => simp [intOf]; omega
        · obtain rfl : i = j3 := by omega
          have HLL : Hid (ers L = thinE M b RL) := Lib.hid (by
            have := hr.out.2.1
            rwa [List.take_of_length_le (by rw [fl_length, HPS.out.gs.len]; exact Nat.le_refl _), HF.out] at this)
          have EL : Hid (EF wr Ar L p cr) := Lib.hid (by
            have hm : ∀ x ∈ ers L, x ∈ (fl Ls).flatten := fun x hx => HM.out.1 x (by rw [HF.out, ← HLL.out]; exact hx)
            have hp : p ≤ tot := by
              have := HPS.out.tot
              rw [HF.out, ← HLL.out, ers_len, hr.out.1] at this
              omega
            refine ⟨hr.out.1, hr.out.2.2.1.lies, hr.out.2.2.2.1.kept hr.out.2.2.2.2, by have := HM.out.2; omega, fun x hx => HH.out.fit x (by rw [← flat_fl]; exact hm x hx), fun x hx => HH.out.long x (by rw [← flat_fl]; exact hm x hx)⟩)
          have HV1 : Hid (visA Q RL = (0, visE Q RL)) := Lib.hid (visA_ok (by rw [← ER.out.2]; exact HOR.out))
          have HV2 : Hid (visA Q (thinE M b RL) = (0, visE Q RL)) := Lib.hid (by
            have ho : OrdL RL := by rw [← ER.out.2]; exact HOR.out
            rw [visA_ok (thin_ord ho), vis_thin ho HMQ.out])
          obtain ⟨V, hV⟩ : ∃ V, visE Q RL = V := ⟨_, rfl⟩
          rw [hV] at HV1 HV2
          have HVL : Hid (V.length ≤ m5 ∧ ∀ x ∈ V, PrB x) := Lib.hid ⟨by rw [← hV, ← ER.out.1.len, ← ers_len, ER.out.2]; simp only [visE, List.length_map]; exact pickF_len _ _ _, by
            have := visA_byt (s := Q) (L := RL) (by rw [← ER.out.2]; exact ER.out.1.ins.byt)
            rw [HV1.out] at this
            exact this⟩
          have BR : Hid (Below w5.heap.size w5 wr) := Lib.hid hr.out.2.2.2.2
          clear hV
          go_upto_region 18 with (go_at_call 31; refine (refVisible_r (ER.out.1.kept BR.out) ER.out.2 HV1.out).mono ?_; rintro e w6 ⟨l6, A6, n6, c6, rfl, h1, h2, h3, h4, hb⟩; have E6 : Hid (l6.length = n6 ∧ rds l6 = V ∧ (∀ p ∈ l6, ∃ q ∈ R, p = ⟨q.k, q.v⟩) ∧ Prow w6 wr.heap.size A6 c6 l6 ∧ Below wr.heap.size wr w6) := Lib.hid ⟨h1, h2, h3, h4, hb⟩; clear h1 h2 h3 h4 hb)
          go_upto_region 19 with (go_at_call 31; refine (refVisible_r (EL.out.kept E6.out.2.2.2.2) HLL.out HV2.out).mono ?_; rintro e w7 ⟨l7, A7, n7, c7, rfl, h1, h2, h3, h4, hb⟩; have E7 : Hid (l7.length = n7 ∧ rds l7 = V ∧ (∀ p ∈ l7, ∃ q ∈ L, p = ⟨q.k, q.v⟩) ∧ Prow w7 w6.heap.size A7 c7 l7 ∧ Below w6.heap.size w6 w7) := Lib.hid ⟨h1, h2, h3, h4, hb⟩; clear h1 h2 h3 h4 hb)
          have HSM : Hid (Calls Try.prog 32 #[.slice A6 n6 c6, .slice A7 n7 c7] w7 fun e w' => e = .returned (.bool true) ∧ Below w7.heap.size w7 w') := Lib.hid (samePairs E6.out.1 E7.out.1 (E6.out.2.2.2.1.kept E7.out.2.2.2.2 (Nat.le_refl _)).lies E7.out.2.2.2.1.lies (fun p hp => by
            obtain ⟨q, hq, e⟩ := E6.out.2.2.1 p hp
            subst e
            exact (((ER.out.1.ins.kept BR.out).kept E6.out.2.2.2.2).kept E7.out.2.2.2.2) q hq) (fun p hp => by
            obtain ⟨q, hq, e⟩ := E7.out.2.2.1 p hp
            subst e
            exact ((EL.out.ins.kept E6.out.2.2.2.2).kept E7.out.2.2.2.2) q hq) (E6.out.2.1.trans E7.out.2.1.symm) (by
            have h1 : n6 = V.length := by rw [← E6.out.2.1, rds_len, E6.out.1]
            have h2 := HVL.out.1
            have h3 := ER.out.1.few
            omega))
          have B7 : Hid (Below w.heap.size w w7) := Lib.hid (below_then (below_then (below_then B5.out BR.out) E6.out.2.2.2.2) E7.out.2.2.2.2)
          clear E6 E7
          go_wp2_with (go_at_call 32; refine HSM.out.mono ?_; rintro e w8 ⟨rfl, hb⟩; have B8 := Lib.hid (below_then B7.out hb); clear hb)
          go_ret
          exact ⟨rfl, B8.out⟩
    · have d2 : (er3 != 0) = true := bne_iff_ne.2 h0
      have d3 : (er3 == 0) = false := beq_eq_false_iff_ne.2 h0
      obtain rfl : j3 = 0 := by
        have h1 := E5.out.2.1.no h0
        rw [← E3.out.1, ← fl_length, HP.out, h1]
        rfl
      clear h0
      go_wp2_with fail
      go_ret
      exact ⟨rfl, below_then B4.out E5.out.2.2.2.2⟩
end Go.Proofs.Ytcffpkflijpdjaa
