/-
  Walks: a file put into the map, and taken out of it.
-/
import Derived.Test.YtjacjafpeajhaaaPgD
import Derived.StillTailTactics
namespace Go.Proofs.Ytjacjafpeajhaaa
open Go.RowKit
open Go.Maps

theorem Does.wider {S T T' : Nat → Prop} {a b : World} (h : Does S S a b) (hS : ∀ k, S k → T k) (hT : ∀ k, T' k → T k ∨ a.heap.size ≤ k) : Does T T' a b :=
  ⟨h.os, h.tape, h.output, h.size, fun k hk hn => h.block k hk (fun hs => hn (hS k hs)), hT⟩
theorem Does.of_grown {S : Nat → Prop} {a b : World} {r : Nat} (h : a.grownBy b (some r)) (hS : S r) : Does S S a b :=
  ⟨h.os, h.tape, h.output, h.size, fun k hk hn => h.block k hk (fun e => by injection e with e; subst e; exact hn hS), fun _ hk => .inl hk⟩
theorem does_set {S : Nat → Prop} {w : World} {g i : Nat} {v : Value} (hS : S g) : Does S S w (w.setCell ⟨g, i, none⟩ v) :=
  ⟨rfl, rfl, rfl, by simp, fun k _ hn => Below.heap_setCell w ⟨g, i, none⟩ v k (fun e => hn (e ▸ hS)), fun _ hk => .inl hk⟩
/-- Two blocks. -/
def Two (a b k : Nat) : Prop := k = a ∨ k = b
theorem In7.not_map {w : World} {B : Nat} {p : Pk} (h : In7 w B p) : (∀ ad, p.K = some ad → ad.block ≠ p.b) ∧ ∀ q ∈ p.l, ¬ q.own p.b := by
  obtain ⟨es, clock, hb, -⟩ := h.map
  refine ⟨fun ad ha e => ?_, fun q hq hk => ?_⟩
  · obtain ⟨cur, hc⟩ := own_type h.keep ha
    rw [e, hb] at hc
    cases hc
  · rcases hk with e | ⟨ad, ha, e⟩
    · have hf := (h.file q hq).at_
      unfold FileAt at hf
      rw [← e, hb] at hf
      cases hf
    · obtain ⟨cur, hc⟩ := own_type (h.file q hq).row ha
      rw [← e, hb] at hc
      cases hc
theorem sumP_ins (q : Pf) (l : List Pf) : sumP (insP q l) = sumP l + q.d.l.length := by
  have key : ∀ l : List Pf, sumM ((insP q l).map Pf.rd) = sumM (l.map Pf.rd) + q.d.l.length := by
    intro l
    induction l with
    | nil => simp [insP, sumM, Pf.rd]
    | cons x l ih =>
      unfold insP
      split
      · simp [sumM, Pf.rd]; omega
      · simp only [sumM, List.map_cons, List.sum_cons] at ih ⊢
        omega
  unfold sumP
  rw [key]
  omega
theorem sumP_del {l : List Pf} (h : Srt l) {q : Pf} (hq : q ∈ l) : sumP (delP q.s l) + q.d.l.length = sumP l := by
  have key : ∀ l : List Pf, Srt l → q ∈ l → sumM ((delP q.s l).map Pf.rd) + q.d.l.length = sumM (l.map Pf.rd) := by
    intro l
    induction l with
    | nil => intro _ hq; cases hq
    | cons x l ih =>
      intro h hq
      obtain ⟨h1, h2⟩ := List.pairwise_cons.1 h
      rcases List.mem_cons.1 hq with rfl | hq'
      · have e : delP q.s (q :: l) = l := by
          unfold delP
          rw [List.filter_cons_of_neg (by simp), List.filter_eq_self]
          intro y hy
          have := h1 y hy
          simp only [decide_eq_true_eq]
          intro e
          rw [e, ltS_irrefl] at this
          cases this
        rw [e]
        simp only [sumM, List.map_cons, List.sum_cons, Pf.rd]
        omega
      · have hne : x.s ≠ q.s := fun e => by
          have := h1 q hq'
          rw [e, ltS_irrefl] at this
          cases this
        have e : delP q.s (x :: l) = x :: delP q.s l := by
          unfold delP
          rw [List.filter_cons_of_pos (by simpa using hne)]
        have := ih h2 hq'
        rw [e]
        simp only [sumM, List.map_cons, List.sum_cons] at this ⊢
        omega
  unfold sumP
  have := key l h hq
  omega

/-- A file lies apart from the disk's own block and from the map. -/
theorem PSt.not_two {w : World} {B C g : Nat} {p : Pk} {x : Pf} (h : PSt w B g p) (hx : FileOk w C x) : ∀ k, x.own k → k ≠ g ∧ k ≠ p.b := fun k hk => by
  have hat := h.at_
  unfold PkAt at hat
  obtain ⟨es, clock, hmb, -⟩ := h.inn.map
  have hf := hx.at_
  unfold FileAt at hf
  rcases hk with e | ⟨ad, ha1, e⟩
  · refine ⟨fun e2 => ?_, fun e2 => ?_⟩
    · rw [← e, e2, hat] at hf
      injection hf with hf
      injection hf with _ hf
      exact absurd hf (by decide)
    · rw [← e, e2, hmb] at hf
      cases hf
  · obtain ⟨cur, hc⟩ := own_type hx.row ha1
    refine ⟨fun e2 => ?_, fun e2 => ?_⟩
    · rw [← e, e2, hat] at hc
      injection hc with hc
      injection hc with _ hc
      exact absurd hc (by decide)
    · rw [← e, e2, hmb] at hc
      cases hc

/-- A file put in. -/
def putP (p : Pk) (q : Pf) : Pk := { p with l := insP q p.l, size := wrap64 (p.size + q.d.l.length) }
/-- The map and the disk's own block have turned: a file more. -/
theorem PSt.put {w w1 : World} {B g : Nat} {p : Pk} {q : Pf} (h : PSt w B g p) (hq : FileOk w B q) (ha : ∀ x ∈ p.l, x.s ≠ q.s ∧ Apart q x)
    (hm : w1.ownsMap Try.prog 9 ptrElem p.b (p.l.length + 1) ((Dm p.l).put (kOf q.s) (.held q.at_))) (hd : Does (Two g p.b) (Two g p.b) w w1) (hk : PkAt w1 g (putP p q)) : PSt w1 B g (putP p q) := by
  have hb := h.inn.not_map
  have hg := h.not_inner
  have hfile : ∀ x, FileOk w B x → FileOk w1 B x := fun x hx => hx.of (fun k hk1 => hd.block k (hx.owned k hk1).2 (fun e => e.elim (h.not_two hx k hk1).1 (h.not_two hx k hk1).2))
  refine ⟨hk, h.low, ⟨?_, h.inn.mlow, ?_, ?_, ?_, ?_, h.inn.ki⟩, ?_, h.left, h.room⟩
  · rw [put_Dm (fun x hx => (ha x hx).1)] at hm
    exact owns_fit hm (by simp [putP])
  · intro x hx
    rcases mem_insP.1 hx with rfl | hx
    · exact hfile x hq
    · exact hfile x (h.inn.file x hx)
  · intro x hx y hy hne
    rcases mem_insP.1 hx with ex | mx <;> rcases mem_insP.1 hy with ey | my
    · exact absurd (by rw [ex, ey]) hne
    · rw [ex]
      exact (ha y my).2
    · rw [ey]
      exact (ha x mx).2.symm
    · exact h.inn.apart x mx y my hne
  · exact h.inn.srt.ins (fun x hx => (ha x hx).1)
  · exact own_block h.inn.keep (fun ad hA => hd.block _ (own_in h.inn.keep ad hA).2 (fun e => by
      rcases e with e | e
      · exact hg (e ▸ .inr (.inl ⟨ad, hA, rfl⟩))
      · exact hb.1 ad hA e))
  · show wrap64 (p.size + q.d.l.length) = wrap64 (sumP (insP q p.l))
    rw [h.size, sumP_ins]
    unfold wrap64
    omega

theorem PSt.put_mid {w w2 w3 : World} {B g : Nat} {p : Pk} {q : Pf} (h : PSt w B g p) (hq : FileOk w B q) (h2 : Below w.heap.size w w2) (h3 : w2.grownBy w3 (some p.b)) :
    PkAt w3 g p ∧ FileAt w3 q.h q.d q.y ∧ Does (Two g p.b) (Two g p.b) w w3 := by
  have hD : Does (Two g p.b) (Two g p.b) w w3 := (Does.of_below h2 (fun _ hk => .inl hk)).trans (Does.of_grown h3 (.inr rfl))
  refine ⟨?_, ?_, hD⟩
  · refine pk_block h.at_ ?_
    rw [h3.block g (by have := h.at_.lt; have := h2.size; omega) (fun e => by injection e with e; exact h.not_inner (e ▸ .inl rfl)), h2.block g h.at_.lt]
  · exact (hq.of (fun k hk => hD.block k (hq.owned k hk).2 (fun e => e.elim (h.not_two hq k hk).1 (h.not_two hq k hk).2))).at_
theorem PSt.put_end {w w3 W : World} {B g : Nat} {p : Pk} {q : Pf} (h : PSt w B g p) (hq : FileOk w B q) (ha : ∀ x ∈ p.l, x.s ≠ q.s ∧ Apart q x) (hm : w3.ownsMap Try.prog 9 ptrElem p.b (p.l.length + 1) ((Dm p.l).put (kOf q.s) (.held q.at_)))
    (hk : PkAt w3 g p) (hd : Does (Two g p.b) (Two g p.b) w w3) (hW : Below w3.heap.size w3 W) : PSt (W.setCell ⟨g, 1, none⟩ (.int .i64 (wrap64 (p.size + q.d.l.length)))) B g (putP p q) ∧ Does (Two g p.b) (Two g p.b) w (W.setCell ⟨g, 1, none⟩ (.int .i64 (wrap64 (p.size + q.d.l.length)))) := by
  have hD : Does (Two g p.b) (Two g p.b) w (W.setCell ⟨g, 1, none⟩ (.int .i64 (wrap64 (p.size + q.d.l.length)))) := (hd.trans (Does.of_below hW (fun _ hk => .inl hk))).trans (does_set (.inl rfl))
  have hne : p.b ≠ g := fun e => h.not_inner (e ▸ .inl rfl)
  have hkW : PkAt W g p := pk_block hk (hW.block g hk.lt)
  refine ⟨h.put hq ha ?_ hD (hkW.set 1 _ rfl), hD⟩
  rw [put_Dm (fun x hx => (ha x hx).1)] at hm ⊢
  refine owns_at hm ?_
  rw [Below.heap_setCell W ⟨g, 1, none⟩ _ p.b hne, hW.block p.b hm.lt]

set_option maxHeartbeats 2000000 in
theorem strClone_any (s : ByteArray) (w : World) (hs : s.size ≤ 281474976710656) :
    Calls Try.prog 64 #[.string s] w fun e w' => e = .returned (.string s) ∧ Below w.heap.size w w' := by
  have HC := Lib.hid (Try.stringslite_Clone s w hs)
  go_enter Try.func64, Try.ntmps64
  go_wp2_with (go_at_call 76; refine HC.out.mono ?_; rintro e w1 ⟨rfl, hb⟩; have B1 := Lib.hid hb; clear hb)
  go_ret
  exact ⟨rfl, B1.out⟩

theorem put_run {w : World} {b n : Nat} {l : List Pf} (h : w.ownsMap Try.prog 9 ptrElem b n (Dm l)) (hn : n < maxLen) (s : ByteArray) (hs : s.size ≤ maxLen) (a : Addr) :
    ∃ w', (Instr.mapUpdate 74 (.map (some b)) (.string s) (.pointer (some a))).run Try.prog w = .ok () w' ∧ w'.ownsMap Try.prog 9 ptrElem b (n + 1) ((Dm l).put (kOf s) (.held a)) ∧ w.grownBy w' (some b) :=
  h.update strT Try.underlying74 hn (kOf_key s hs) (ps := []) rfl

set_option maxRecDepth 100000 in
set_option maxHeartbeats 4000000 in
theorem put_any (B g : Nat) (p : Pk) (q : Pf) (w : World) (h : PSt w B g p) (hq : FileOk w B q) (ha : ∀ x ∈ p.l, x.s ≠ q.s ∧ Apart q x) (hn : p.l.length < maxLen) (hs : q.s.size ≤ 281474976710656) (hm : q.s.size ≤ maxLen) :
    Calls Try.prog 33 #[.pointer (some ⟨g, 0, none⟩), .string q.s, .pointer (some ⟨q.h, 0, none⟩)] w fun e w' => e = .returned (.tuple #[]) ∧ PSt w' B g (putP p q) ∧ Does (Two g p.b) (Two g p.b) w w' := by
  have HC := Lib.hid (fun W => strClone_any q.s W hs)
  have H := Lib.hid (And.intro h (And.intro hq ha))
  have HK := Lib.hid (fun (W : World) (hb : Below w.heap.size w W) => And.intro (h.kept hb).at_.cell.1 (put_run (h.kept hb).inn.map hn q.s hm ⟨q.h, 0, none⟩))
  have c0 := h.at_.cell.1
  clear h hq ha
  obtain ⟨qs, qh, ⟨qa, qc, ql⟩, qy⟩ := q
  simp only at HC HK ⊢
  have B0 : Hid (Below w.heap.size w w) := Lib.hid (Below.refl _ _)
  have B1 : Hid (Below w.heap.size w w.drew) := Lib.hid (Below.refl _ _).drew
  go_enter Try.func33, Try.ntmps33
  go_upto_region 1 with fail
  go_region_law (first
    | (go_simp; go_at_call 64; refine (HC.out _).mono ?_; rintro e w2 ⟨rfl, hb⟩; obtain ⟨y0, w3, hrun, ho3, hg3⟩ := HK.out _ (by first | exact B0.out.trans hb | exact B1.out.trans hb); have C2 : Hid (Below w.heap.size w w2) := Lib.hid (by first | exact B0.out.trans hb | exact B1.out.trans hb); have C3 := Lib.hid (And.intro ho3 hg3); clear hb ho3 hg3))
  all_goals
    have M := Lib.hid (H.out.1.put_mid H.out.2.1 C2.out C3.out.2)
    have a1 := M.out.1.cell.2.1
    have fz := M.out.1.frozen 1
    have a2 := M.out.2.1.cell.1
    unfold Sl.val at a2
    simp only at a2
    have E1 := Lib.hid (H.out.1.put_end (W := w3.drew) H.out.2.1 H.out.2.2 C3.out.1 M.out.1 M.out.2.2 (Below.refl _ _).drew)
    clear hrun c0
    go_upto_region 1 with fail
    go_still_tail 12, (by kernel_rfl)
    change wpList _ _ _ _ _ w3.drew
    go_wp2_with fail
    go_end0
    exact ⟨rfl, E1.out.1, E1.out.2⟩

end Go.Proofs.Ytjacjafpeajhaaa
