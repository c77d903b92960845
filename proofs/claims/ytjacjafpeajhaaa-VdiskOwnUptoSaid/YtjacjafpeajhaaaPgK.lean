/-
  The program's disk: what each call answers and leaves, on what is read of it; one file laid anew.
-/
import Derived.Test.YtjacjafpeajhaaaPgJ
namespace Go.Proofs.Ytjacjafpeajhaaa
open Go.RowKit
open Go.Maps

def Vm.step (m : Vm) : Vm × Int := if m.left = 0 then ({ m with down := true }, 20) else if 0 < m.left then ({ m with left := m.left - 1 }, 0) else (m, 0)
def Vm.hinder (m : Vm) (names : List ByteArray) (s : ByteArray) : Int := if readyE m.down names ≠ 0 then readyE m.down names else if (findM s m.fs).isNone then 22 else 0
def Vm.does (m : Vm) (e : Int) (f : List (ByteArray × List Int × Int) → List (ByteArray × List Int × Int)) : Vm × Int := if e ≠ 0 then (m, e) else if m.step.2 ≠ 0 then m.step else ({ m.step.1 with fs := f m.fs }, 0)
def Vm.sync (m : Vm) (s : ByteArray) : Vm × Int := m.does (m.hinder [s] s) (syncM s)
def Vm.delete (m : Vm) (s : ByteArray) : Vm × Int := m.does (m.hinder [s] s) (fun fs => fs.eraseIdx ((findM s fs).getD 0))
def Vm.rename (m : Vm) (s t : ByteArray) : Vm × Int := m.does (m.hinder [s, t] s) (fun fs => if s = t then fs else renM s t fs)
def Vm.read (m : Vm) (s : ByteArray) : List Int × Int := if m.hinder [s] s ≠ 0 then ([], m.hinder [s] s) else (dataM s m.fs, 0)
def Vm.list (m : Vm) : List ByteArray × Int := if m.down then ([], 20) else (m.fs.map Prod.fst, 0)
def Vm.append (m : Vm) (s : ByteArray) (b : List Int) : Vm × Int :=
  if readyE m.down [s] ≠ 0 then (m, readyE m.down [s]) else if 0 ≤ m.room ∧ m.room < ((b.length + sumM m.fs : Nat) : Int) then (m, 21) else if m.step.2 ≠ 0 then m.step
  else ({ m.step.1 with fs := appM s b (if findM s m.fs = none then insM (s, [], 0) m.fs else m.fs) }, 0)
def Vm.revive (m : Vm) (ops room : Int) (keep : List Int) : Vm := ⟨revL m.keep 0 m.fs, room, ops, keep, false⟩

theorem step_vm (p : Pk) : (stepP p).1.vm = p.vm.step.1 ∧ (stepP p).2 = p.vm.step.2 ∧ (stepP p).1.l = p.l ∧ (stepP p).1.b = p.b ∧ (stepP p).1.K = p.K ∧ (stepP p).1.keep = p.keep ∧ (stepP p).1.kc = p.kc ∧ (stepP p).1.size = p.size ∧ (stepP p).1.room = p.room := by
  have e : p.vm.step = if p.left = 0 then ({ p.vm with down := true }, 20) else if 0 < p.left then ({ p.vm with left := p.left - 1 }, 0) else (p.vm, 0) := rfl
  rw [e]
  unfold stepP
  split
  · exact ⟨rfl, rfl, rfl, rfl, rfl, rfl, rfl, rfl, rfl⟩
  · split
    · exact ⟨rfl, rfl, rfl, rfl, rfl, rfl, rfl, rfl, rfl⟩
    · exact ⟨rfl, rfl, rfl, rfl, rfl, rfl, rfl, rfl, rfl⟩
theorem step_left (p : Pk) (h : -9223372036854775808 ≤ p.left ∧ p.left ≤ 9223372036854775807) : -9223372036854775808 ≤ (stepP p).1.left ∧ (stepP p).1.left ≤ 9223372036854775807 := by
  unfold stepP
  split
  · exact h
  · split
    · show _ ≤ p.left - 1 ∧ p.left - 1 ≤ _
      omega
    · exact h
theorem PSt.step {w w' : World} {B g : Nat} {p : Pk} (h : PSt w B g p) (hk : PkAt w' g (stepP p).1) (hb : BelowX w.heap.size g w w') : PSt w' B g (stepP p).1 ∧ Does (p.own g) ((stepP p).1.own g) w w' := by
  obtain ⟨-, -, h3, h4, h5, h6, h7, h8, h9⟩ := step_vm p
  exact h.turned hk hb h4 h3 h5 h6 h7 h8 (step_left p h.left) (by rw [h9]; exact h.room)
theorem findE_vm (p : Pk) (s : ByteArray) : findE p s = p.vm.hinder [s] s := by
  have e : p.vm.hinder [s] s = if readyE p.down [s] ≠ 0 then readyE p.down [s] else if (findM s (p.l.map Pf.rd)).isNone then 22 else 0 := rfl
  rw [e]
  unfold findE
  cases hf : findP s p.l with
  | none => rw [findM_none hf]; rfl
  | some q =>
    obtain ⟨i, h1, -⟩ := findM_P hf
    rw [h1]
    rfl
theorem findE_ok {p : Pk} {s : ByteArray} (h : findE p s = 0) : readyE p.down [s] = 0 ∧ ∃ q, findP s p.l = some q := by
  unfold findE at h
  by_cases h0 : readyE p.down [s] = 0
  · rw [h0] at h
    cases hf : findP s p.l with
    | none => rw [hf] at h; cases h
    | some q => exact ⟨h0, q, rfl⟩
  · rw [if_pos h0] at h
    exact absurd h h0

/-- Two files apart have no block in common. -/
theorem apart_own {w : World} {B C : Nat} {q x : Pf} (hq : FileOk w B q) (hx : FileOk w C x) (h : Apart q x) : ∀ k, q.own k → ¬ x.own k := fun k h1 h2 => by
  have f1 := hq.at_
  have f2 := hx.at_
  unfold FileAt at f1 f2
  rcases h1 with e1 | ⟨ad, ha, e1⟩ <;> rcases h2 with e2 | ⟨bd, hb, e2⟩
  · exact h.1 (by rw [← e1, ← e2])
  · obtain ⟨cur, hc⟩ := own_type hx.row hb
    rw [← e2, e1, f1] at hc
    injection hc with hc
    injection hc with _ hc
    exact absurd hc (by decide)
  · obtain ⟨cur, hc⟩ := own_type hq.row ha
    rw [← e1, e2, f2] at hc
    injection hc with hc
    injection hc with _ hc
    exact absurd hc (by decide)
  · exact h.2 ad bd ha hb (by rw [← e1, ← e2])
theorem In7.not_keep {w : World} {B C : Nat} {p : Pk} {q : Pf} (h : In7 w B p) (hq : FileOk w C q) : ∀ ad, p.K = some ad → ¬ q.own ad.block := fun ad hA hk => by
  obtain ⟨cur, hc⟩ := own_type h.keep hA
  rcases hk with e | ⟨bd, hb, e⟩
  · have f1 := hq.at_
    unfold FileAt at f1
    rw [e, f1] at hc
    injection hc with hc
    injection hc with _ hc
    exact absurd hc (by decide)
  · obtain ⟨cur2, hc2⟩ := own_type hq.row hb
    rw [e, hc2] at hc
    injection hc with hc
    injection hc with _ hc
    exact absurd hc (by decide)
/-- One file laid anew. -/
theorem In7.reput {w w' : World} {B i : Nat} {p : Pk} {q q' : Pf} (h : In7 w B p) (hq : p.l[i]? = some q) (hs : q'.s = q.s) (hh : q'.h = q.h) (hok : FileOk w' B q') (hrow : ∀ ad, q'.d.a = some ad → q.own ad.block ∨ w.heap.size ≤ ad.block) (hd : ∀ k, p.inner k → ¬ q.own k → w'.heap[k]? = w.heap[k]?) :
    In7 w' B { p with l := p.l.set i q' } := by
  have hm := List.mem_of_getElem? hq
  have hfq := h.file q hm
  have hx : ∀ x ∈ p.l, x.s ≠ q.s → FileOk w' B x ∧ Apart q' x := fun x hx hn => by
    have hfx := h.file x hx
    have ha := h.apart x hx q hm hn
    refine ⟨hfx.of (fun k hk => hd k (.inr (.inr ⟨x, hx, hk⟩)) (fun h2 => apart_own hfx hfq ha k hk h2)), ?_, ?_⟩
    · rw [hh]
      exact fun e => ha.1 e.symm
    · intro ad bd h1 h2 e
      rcases hrow ad h1 with h3 | h3
      · exact apart_own hfx hfq ha ad.block (e ▸ .inr ⟨bd, h2, rfl⟩) h3
      · have := (own_in hfx.row bd h2).2
        omega
  refine ⟨?_, h.mlow, ?_, ?_, h.srt.names (set_names hq hs), own_block h.keep (fun ad hA => hd _ (.inr (.inl ⟨ad, hA, rfl⟩)) (h.not_keep hfq ad hA)), h.ki⟩
  · show w'.ownsMap Try.prog 9 ptrElem p.b (p.l.set i q').length (Dm (p.l.set i q'))
    rw [ents_set hq hs hh, List.length_set]
    exact owns_at h.map (hd _ (.inl rfl) (h.not_map.2 q hm))
  · intro x hx2
    rcases mem_setP h.srt hq hs hx2 with e | ⟨h1, h2⟩
    · rw [e]
      exact hok
    · exact (hx x h1 h2).1
  · intro x hx2 y hy2 hn
    rcases mem_setP h.srt hq hs hx2 with ex | ⟨h1, h2⟩ <;> rcases mem_setP h.srt hq hs hy2 with ey | ⟨h3, h4⟩
    · exact absurd (by rw [ex, ey]) hn
    · rw [ex]
      exact (hx y h3 h4).2
    · rw [ey]
      exact (hx x h1 h2).2.symm
    · exact h.apart x h1 y h3 hn
theorem PSt.reput {w w' : World} {B g i : Nat} {p : Pk} {q q' : Pf} (h : PSt w B g p) (hq : p.l[i]? = some q) (hs : q'.s = q.s) (hh : q'.h = q.h) (hok : FileOk w' B q') (hrow : ∀ ad, q'.d.a = some ad → q.own ad.block ∨ w.heap.size ≤ ad.block) (hd : Does q.own q.own w w')
    (hl : q'.d.l.length = q.d.l.length) : PSt w' B g { p with l := p.l.set i q' } ∧ Does (p.own g) (Pk.own { p with l := p.l.set i q' } g) w w' := by
  have hm := List.mem_of_getElem? hq
  have hfq := h.inn.file q hm
  refine ⟨⟨?_, h.low, h.inn.reput hq hs hh hok hrow (fun k hk hn => hd.block k (h.inn.owned k hk).2 hn), ?_, h.left, h.room⟩, ?_⟩
  · exact pk_block (show PkAt w g { p with l := p.l.set i q' } from h.at_) (hd.block g h.at_.lt (fun hk => (h.not_two hfq g hk).1 rfl))
  · show p.size = wrap64 (sumP (p.l.set i q'))
    rw [h.size]
    have e2 : ((p.l.set i q').map Pf.rd).map (fun x => x.2.1.length) = (p.l.map Pf.rd).map (fun x => x.2.1.length) := by
      rw [List.map_map, List.map_map]
      refine List.ext_getElem? fun j => ?_
      rw [List.getElem?_map, List.getElem?_map]
      by_cases e : i = j
      · subst e
        rw [List.getElem?_set_self (List.getElem?_eq_some_iff.1 hq).1, hq]
        simp [Pf.rd, hl]
      · rw [List.getElem?_set_ne e]
    unfold sumP sumM
    rw [e2]
  · refine hd.wider (fun k hk => .inr (.inr (.inr ⟨q, hm, hk⟩))) (fun k hk => ?_)
    rcases hk with e | e | e | ⟨x, hx, hk⟩
    · exact .inl (.inl e)
    · exact .inl (.inr (.inl e))
    · exact .inl (.inr (.inr (.inl e)))
    · rcases List.mem_or_eq_of_mem_set hx with h1 | h1
      · exact .inl (.inr (.inr (.inr ⟨x, h1, hk⟩)))
      · subst h1
        rcases hk with e | ⟨ad, ha, e⟩
        · exact .inl (.inr (.inr (.inr ⟨q, hm, .inl (by rw [e, hh])⟩)))
        · rcases hrow ad ha with h2 | h2
          · exact .inl (.inr (.inr (.inr ⟨q, hm, e ▸ h2⟩)))
          · exact .inr (e ▸ h2)
theorem setP_rd (l : List Pf) (i : Nat) (q : Pf) : (l.set i q).map Pf.rd = (l.map Pf.rd).set i q.rd := by rw [List.map_set]
theorem delP_rd {l : List Pf} (h : Srt l) {i : Nat} {q : Pf} (hq : l[i]? = some q) : (delP q.s l).map Pf.rd = (l.map Pf.rd).eraseIdx i := by
  have key : delP q.s l = l.eraseIdx i := by
    have : ∀ (l : List Pf) (i : Nat), Srt l → l[i]? = some q → delP q.s l = l.eraseIdx i := by
      intro l
      induction l with
      | nil => intro i _ hq; simp at hq
      | cons x l ih =>
        intro i h hq
        obtain ⟨h1, h2⟩ := List.pairwise_cons.1 h
        cases i with
        | zero =>
          simp at hq
          subst hq
          unfold delP
          rw [List.filter_cons_of_neg (by simp), List.eraseIdx_zero, List.tail_cons, List.filter_eq_self]
          intro y hy
          have := h1 y hy
          simp only [decide_eq_true_eq]
          intro e
          rw [e, ltS_irrefl] at this
          cases this
        | succ i =>
          have hq' : l[i]? = some q := by simpa using hq
          have hne : x.s ≠ q.s := fun e => by
            have := h1 q (List.mem_of_getElem? hq')
            rw [e, ltS_irrefl] at this
            cases this
          have := ih i h2 hq'
          unfold delP at this ⊢
          rw [List.filter_cons_of_pos (by simpa using hne), this, List.eraseIdx_cons_succ]
    exact this l i h hq
  rw [key, map_erase]
theorem PSt.longs {w : World} {B g : Nat} {p : Pk} (h : PSt w B g p) : ∀ q ∈ p.l, q.d.l.length ≤ 9223372036854775807 := fun q hq => by
  have := own_cap (h.inn.file q hq).row
  omega

end Go.Proofs.Ytjacjafpeajhaaa
