/-
  Walks: the program's disk: Delete, Rename.
-/
import Derived.Test.YtjacjafpeajhaaaPgL
namespace Go.Proofs.Ytjacjafpeajhaaa
open Go.RowKit
open Go.Maps

theorem takeP_parts (p : Pk) (s : ByteArray) : (takeP p s).b = p.b ∧ (takeP p s).K = p.K ∧ (takeP p s).keep = p.keep ∧ (takeP p s).room = p.room ∧ (takeP p s).left = p.left ∧ (takeP p s).down = p.down ∧ (takeP p s).l = delP s p.l := by
  unfold takeP
  cases hf : findP s p.l with
  | none =>
    refine ⟨rfl, rfl, rfl, rfl, rfl, rfl, ?_⟩
    unfold delP
    rw [List.filter_eq_self.2]
    intro x hx
    simpa using findP_none hf x hx
  | some q => exact ⟨rfl, rfl, rfl, rfl, rfl, rfl, rfl⟩
theorem ins_del {l : List Pf} (h : Srt l) {q : Pf} (hq : q ∈ l) : insP q (delP q.s l) = l := by
  induction l with
  | nil => cases hq
  | cons x l ih =>
    obtain ⟨h1, h2⟩ := List.pairwise_cons.1 h
    rcases List.mem_cons.1 hq with e | hq'
    · subst e
      have e : delP q.s (q :: l) = l := by
        unfold delP
        rw [List.filter_cons_of_neg (by simp), List.filter_eq_self]
        intro y hy
        have := h1 y hy
        simp only [decide_eq_true_eq]
        intro e
        rw [e, ltS_irrefl] at this
        cases this
      rw [e]
      cases l with
      | nil => rfl
      | cons y l =>
        unfold insP
        rw [if_pos (h1 y (by simp))]
    · have hlt := h1 q hq'
      have hne : x.s ≠ q.s := fun e => by
        rw [e, ltS_irrefl] at hlt
        cases hlt
      have e : delP q.s (x :: l) = x :: delP q.s l := by
        unfold delP
        rw [List.filter_cons_of_pos (by simpa using hne)]
      rw [e]
      unfold insP
      rw [if_neg (by rw [ltS_asym hlt]; simp), ih h2 hq']
theorem del_del (s : ByteArray) (l : List Pf) : delP s (delP s l) = delP s l := by
  unfold delP
  rw [List.filter_filter]
  simp
theorem dropP_rd {l : List Pf} (h : Srt l) (t : ByteArray) : (delP t l).map Pf.rd = dropM t (l.map Pf.rd) := by
  unfold dropM
  cases hf : findP t l with
  | none =>
    rw [findM_none hf]
    unfold delP
    rw [List.filter_eq_self.2]
    intro x hx
    simpa using findP_none hf x hx
  | some q =>
    obtain ⟨i, h1, h2⟩ := findM_P hf
    rw [h1]
    have := (findP_mem hf).2
    subst this
    exact delP_rd h h2

set_option maxHeartbeats 2000000 in
theorem delete_any (B g : Nat) (p : Pk) (s : ByteArray) (w : World) (h : PSt w B g p) (hs : s.size ≤ 140737488355328) :
    Calls Try.prog 23 #[.pointer (some ⟨g, 0, none⟩), .string s] w fun e w' => e = .returned (.int .i64 (p.vm.delete s).2) ∧ Rest w B g p (p.vm.delete s).1 w' := by
  have HC := Lib.hid (change_any B g p s w h (by omega) (by unfold maxLen; omega))
  have H := Lib.hid h
  obtain ⟨M, hM⟩ : ∃ M, p.vm.delete s = M := ⟨_, rfl⟩
  rw [hM]
  have HM : Hid (p.vm.does (findE p s) (fun fs => fs.eraseIdx ((findM s fs).getD 0)) = M) := Lib.hid (by rw [← hM, findE_vm]; rfl)
  obtain ⟨c, hc⟩ : ∃ c, changeP p s = c := ⟨_, rfl⟩
  rw [hc] at HC
  have HCC := Lib.hid hc
  obtain ⟨c1, c2, c3⟩ := c
  unfold TurnsV at HC
  simp only at HC
  clear h hM hc
  by_cases h0 : c3 = 0
  · subst h0
    obtain ⟨q, i, hq, hi, hf, hp, h1, he, hv⟩ := change_good (p := p) (s := s) (by rw [HCC.out])
    rw [HCC.out] at hp h1
    simp only at hp h1
    subst hp
    subst h1
    have HST := Lib.hid (fun (w' : World) (hk : PkAt w' g (stepP p).1) (hb : BelowX w.heap.size g w w') => H.out.step hk hb)
    have HL : Hid ((stepP p).1.l = p.l) := Lib.hid (step_vm p).2.2.1
    have HV : Hid (M = ({ (stepP p).1.vm with fs := (delP s p.l).map Pf.rd }, 0)) := Lib.hid (by
      rw [← HM.out, hv, hf]
      have := (findP_mem hq).2
      subst this
      rw [delP_rd H.out.inn.srt hi]
      rfl)
    obtain ⟨p1, hp1⟩ : ∃ p1, (stepP p).1 = p1 := ⟨_, rfl⟩
    rw [hp1] at HC HST HL HV
    have HT := Lib.hid (fun (W : World) (hP : PSt W B g p1) => take_any B g p1 s W hP (by unfold maxLen; omega))
    clear hq hi hf he hv hp1 HCC HM
    go_enter Try.func23, Try.ntmps23
    go_wp2_with (first
      | (go_at_call 49; refine HC.out.mono ?_; rintro e w1 ⟨rfl, hk, hb⟩; have E1 := Lib.hid (HST.out w1 hk hb); clear hk hb)
      | (go_at_call 50; refine (HT.out _ E1.out.1).mono ?_; rintro e w2 ⟨rfl, h2, h3⟩; have E2 := Lib.hid (And.intro h2 h3); clear h2 h3))
    go_ret
    rw [HV.out]
    obtain ⟨t1, t2, t3, t4, t5, t6, t7⟩ := takeP_parts p1 s
    refine ⟨rfl, _, E2.out.1, ?_, E1.out.2.trans (E2.out.2.wider (fun k hk => ?_) (fun k hk => ?_))⟩
    · unfold Pk.vm
      rw [t3, t4, t5, t6, t7, HL.out]
    · rcases hk with e | e
      · exact .inl e
      · exact .inr (.inl e)
    · rcases hk with e | e | e | ⟨x, hx, hk⟩
      · exact .inl (.inl e)
      · exact .inl (.inr (.inl (by rw [e, t1])))
      · rw [t2] at e
        exact .inl (.inr (.inr (.inl e)))
      · rw [t7] at hx
        exact .inl (.inr (.inr (.inr ⟨x, (mem_delP.1 hx).1, hk⟩)))
  · have HB := Lib.hid (fun (w' : World) (hk : PkAt w' g (changeP p s).1) (hb : BelowX w.heap.size g w w') => change_bad (s := s) (f := fun fs => fs.eraseIdx ((findM s fs).getD 0)) H.out hk hb (by rw [HCC.out]; exact h0))
    rw [HCC.out, HM.out] at HB
    simp only at HB
    have d0 : (c3 != 0) = true := by simpa using h0
    clear h0
    go_enter Try.func23, Try.ntmps23
    go_wp2_with (go_at_call 49; refine HC.out.mono ?_; rintro e w1 ⟨rfl, hk, hb⟩; have E1 := Lib.hid (HB.out w1 hk hb); clear hk hb)
    go_ret
    rw [E1.out.1]
    exact ⟨rfl, E1.out.2⟩

theorem ready_all {d : Bool} {s t : ByteArray} (h : readyE d [s, t] = 0) : d = false ∧ okName s = true ∧ okName t = true := by
  unfold readyE at h
  cases d
  · rw [if_neg (by decide)] at h
    by_cases h2 : [s, t].all okName = true
    · simp only [List.all_cons, List.all_nil, Bool.and_true, Bool.and_eq_true] at h2
      exact ⟨rfl, h2.1, h2.2⟩
    · rw [if_neg h2] at h
      cases h
  · rw [if_pos rfl] at h
    cases h
theorem hinder_two {p : Pk} {s t : ByteArray} (h : readyE p.down [s, t] = 0) : p.vm.hinder [s, t] s = findE p s := by
  rw [findE_vm]
  obtain ⟨h1, h2, h3⟩ := ready_all h
  have e : p.vm.down = false := h1
  unfold Vm.hinder
  rw [e]
  have e2 : readyE false [s] = 0 := by simp [readyE, h2]
  have e3 : readyE false [s, t] = 0 := by simp [readyE, h2, h3]
  rw [e2, e3]
theorem hinder_names {m : Vm} {names : List ByteArray} {s : ByteArray} (h : readyE m.down names ≠ 0) (f : List (ByteArray × List Int × Int) → List (ByteArray × List Int × Int)) : m.does (m.hinder names s) f = (m, readyE m.down names) := by
  unfold Vm.does Vm.hinder
  rw [if_pos h, if_pos h]
/-- A file that is kept while the map is turned. -/
theorem FileOk.two {w w' : World} {B g : Nat} {p : Pk} {q : Pf} (hP : PSt w B g p) (h : FileOk w B q) (hd : Does (Two g p.b) (Two g p.b) w w') : FileOk w' B q :=
  h.of (fun k hk => hd.block k (h.owned k hk).2 (fun e => e.elim (hP.not_two h k hk).1 (hP.not_two h k hk).2))

set_option maxRecDepth 100000 in
set_option maxHeartbeats 4000000 in
theorem rename_any (B g : Nat) (p : Pk) (s t : ByteArray) (w : World) (h : PSt w B g p) (hs : s.size ≤ 140737488355328) (ht : t.size ≤ 140737488355328) (hl : p.l.length < maxLen) :
    Calls Try.prog 22 #[.pointer (some ⟨g, 0, none⟩), .string s, .string t] w fun e w' => e = .returned (.int .i64 (p.vm.rename s t).2) ∧ Rest w B g p (p.vm.rename s t).1 w' := by
  have H1 := Lib.hid (h.kept (below_new w (.cells #[.string s, .string t] 9)))
  have B1 := Lib.hid (below_new w (.cells #[.string s, .string t] 9))
  have HR := Lib.hid (ready_any g p (some ⟨w.heap.size, 0, none⟩) [s, t] 2 2 (w.alloc (.cells #[.string s, .string t] 9)) H1.out.at_ rfl (lit_lies w [.string s, .string t] _ rfl _) (by omega) (fun x hx => by
    simp only [List.mem_cons, List.not_mem_nil, or_false] at hx
    rcases hx with rfl | rfl <;> omega))
  have HC := Lib.hid (change_any B g p s (w.alloc (.cells #[.string s, .string t] 9)) H1.out (by omega) (by unfold maxLen; omega))
  obtain ⟨M, hM⟩ : ∃ M, p.vm.rename s t = M := ⟨_, rfl⟩
  rw [hM]
  have HM := Lib.hid hM
  obtain ⟨r, hr⟩ : ∃ r, readyE p.down [s, t] = r := ⟨_, rfl⟩
  rw [hr] at HR
  have HRR := Lib.hid hr
  obtain ⟨c, hc⟩ : ∃ c, changeP p s = c := ⟨_, rfl⟩
  rw [hc] at HC
  have HCC := Lib.hid hc
  obtain ⟨c1, c2, c3⟩ := c
  unfold TurnsV at HC
  simp only at HC
  have HLM := Lib.hid hl
  clear h hM hr hc hl
  by_cases h9 : r = 0
  · subst h9
    have HD : Hid (p.vm.does (findE p s) (fun fs => if s = t then fs else renM s t fs) = M) := Lib.hid (by rw [← HM.out, ← hinder_two HRR.out]; rfl)
    by_cases h0 : c3 = 0
    · subst h0
      obtain ⟨q, i, hq, hi, hf, hp, h1, he, hv⟩ := change_good (p := p) (s := s) (by rw [HCC.out])
      rw [HCC.out] at hp h1
      simp only at hp h1
      subst hp
      subst h1
      have HST := Lib.hid (fun (w' : World) (hk : PkAt w' g (stepP p).1) (hb : BelowX _ g _ w') => H1.out.step hk hb)
      have HL : Hid ((stepP p).1.l = p.l ∧ (stepP p).1.b = p.b) := Lib.hid ⟨(step_vm p).2.2.1, (step_vm p).2.2.2.1⟩
      have HQ : Hid (q ∈ p.l ∧ q.s = s) := Lib.hid (findP_mem hq)
      have HV : Hid (M = ({ (stepP p).1.vm with fs := (insP { q with s := t } (delP t (delP s p.l))).map Pf.rd }, 0)) := Lib.hid (by
        rw [← HD.out, hv]
        by_cases e : s = t
        · subst e
          rw [if_pos rfl, del_del]
          have e2 := HQ.out.2
          subst e2
          rw [show ({ q with s := q.s } : Pf) = q from rfl, ins_del H1.out.inn.srt HQ.out.1]
        · rw [if_neg e]
          unfold renM
          rw [hf]
          simp only [List.getElem?_map, hi, Option.map_some]
          rw [insP_rd, dropP_rd H1.out.inn.srt.del, ← HQ.out.2, delP_rd H1.out.inn.srt hi]
          rfl)
      obtain ⟨p1, hp1⟩ : ∃ p1, (stepP p).1 = p1 := ⟨_, rfl⟩
      rw [hp1] at HC HST HL HV
      have HT1 := Lib.hid (fun (W : World) (hP : PSt W B g p1) => take_any B g p1 s W hP (by unfold maxLen; omega))
      have HT2 := Lib.hid (fun (W : World) (hP : PSt W B g (takeP p1 s)) => take_any B g (takeP p1 s) t W hP (by unfold maxLen; omega))
      obtain ⟨b1, b2, b3, b4, b5, b6, b7⟩ := takeP_parts p1 s
      obtain ⟨d1, d2, d3, d4, d5, d6, d7⟩ := takeP_parts (takeP p1 s) t
      have HPA := Lib.hid (And.intro (d1.trans b1) (And.intro (d2.trans b2) (And.intro (d3.trans b3) (And.intro (d4.trans b4) (And.intro (d5.trans b5) (And.intro (d6.trans b6) (d7.trans (by rw [b7, HL.out.1]))))))))
      have HB1 := Lib.hid b1
      have HPU := Lib.hid (fun (W : World) (hP : PSt W B g (takeP (takeP p1 s) t)) (hF : FileOk W B q) => put_any B g (takeP (takeP p1 s) t) { q with s := t } W hP ⟨hF.at_, hF.low, hF.row, hF.byt⟩ (fun x hx => by
        rw [HPA.out.2.2.2.2.2.2] at hx
        obtain ⟨m1, m2⟩ := mem_delP.1 hx
        obtain ⟨m3, m4⟩ := mem_delP.1 m1
        exact ⟨m2, H1.out.inn.apart q HQ.out.1 x m3 (by rw [HQ.out.2]; exact fun e => m4 e.symm)⟩) (by
          rw [HPA.out.2.2.2.2.2.2]
          have h1 : (delP t (delP s p.l)).length ≤ (delP s p.l).length := List.length_filter_le _ _
          have h2 : (delP s p.l).length ≤ p.l.length := List.length_filter_le _ _
          have := HLM.out
          omega) (by show t.size ≤ _; omega) (by show t.size ≤ _; unfold maxLen; omega))
      have HQ1 : Hid (q ∈ p1.l) := Lib.hid (by rw [HL.out.1]; exact HQ.out.1)
      obtain ⟨qs, qh, ⟨qa, qc, ql⟩, qy⟩ := q
      simp only at HC HPU
      clear hq hi hf he hv hp1 HCC b1 b2 b3 b4 b5 b6 b7 d1 d2 d3 d4 d5 d6 d7
      go_enter Try.func22, Try.ntmps22
      go_wp2_with (first
        | (go_at_call 47; refine HR.out.mono ?_; rintro e w1 ⟨rfl, hw⟩; subst hw)
        | (go_at_call 49; refine HC.out.mono ?_; rintro e w1 ⟨rfl, hk, hb⟩; have E1 := Lib.hid (HST.out w1 hk hb); clear hk hb; have tok1 : True := trivial)
        | (go_at_call 50; have _t := tok1; refine (HT1.out _ E1.out.1).mono ?_; rintro e w2 ⟨rfl, h2, h3⟩; have E2 := Lib.hid (And.intro h2 h3); clear h2 h3 tok1)
        | (go_at_call 50; refine (HT2.out _ E2.out.1).mono ?_; rintro e w3 ⟨rfl, h2, h3⟩; have E3 := Lib.hid (And.intro h2 h3); have F3 := Lib.hid (FileOk.two E2.out.1 (FileOk.two E1.out.1 (E1.out.1.inn.file _ HQ1.out) E2.out.2) h3); clear h2 h3)
        | (go_at_call 33; refine (HPU.out _ E3.out.1 F3.out).mono ?_; rintro e w4 ⟨rfl, h2, h3⟩; have E4 := Lib.hid (And.intro h2 h3); clear h2 h3))
      go_ret
      rw [HV.out]
      obtain ⟨a1, a2, a3, a4, a5, a6, a7⟩ := HPA.out
      have hD := (E2.out.2.trans (show Does (Two g p1.b) (Two g p1.b) w2 w3 from by have := E3.out.2; rwa [HB1.out] at this)).trans (show Does (Two g p1.b) (Two g p1.b) w3 w4 from by have := E4.out.2; rwa [a1] at this)
      refine ⟨rfl, _, E4.out.1, ?_, ((Does.of_below B1.out (fun _ hk => .inl hk)).trans E1.out.2).trans (hD.wider (fun k hk => ?_) (fun k hk => ?_))⟩
      · show Pk.vm (putP _ _) = _
        unfold putP Pk.vm
        simp only
        rw [a3, a4, a5, a6, a7]
      · rcases hk with e | e
        · exact .inl e
        · exact .inr (.inl e)
      · rcases hk with e | e | ⟨ad, hA, e⟩ | ⟨x, hx, hk⟩
        · exact .inl (.inl e)
        · exact .inl (.inr (.inl (by rw [e]; exact a1)))
        · refine .inl (.inr (.inr (.inl ⟨ad, ?_, e⟩)))
          rw [← a2]
          exact hA
        · rcases mem_insP.1 hx with ex | ex
          · subst ex
            exact .inl (.inr (.inr (.inr ⟨_, HQ1.out, hk⟩)))
          · rw [a7] at ex
            exact .inl (.inr (.inr (.inr ⟨x, by rw [HL.out.1]; exact (mem_delP.1 (mem_delP.1 ex).1).1, hk⟩)))
    · have HB := Lib.hid (fun (w' : World) (hk : PkAt w' g (changeP p s).1) (hb : BelowX _ g _ w') => change_bad (s := s) (f := fun fs => if s = t then fs else renM s t fs) H1.out hk hb (by rw [HCC.out]; exact h0))
      rw [HCC.out, HD.out] at HB
      simp only at HB
      have d0 : (c3 != 0) = true := by simpa using h0
      clear h0
      go_enter Try.func22, Try.ntmps22
      go_wp2_with (first
        | (go_at_call 47; refine HR.out.mono ?_; rintro e w1 ⟨rfl, hw⟩; subst hw)
        | (go_at_call 49; refine HC.out.mono ?_; rintro e w1 ⟨rfl, hk, hb⟩; have E1 := Lib.hid (HB.out w1 hk hb); clear hk hb))
      go_ret
      rw [E1.out.1]
      obtain ⟨p', r1, r2, r3⟩ := E1.out.2
      exact ⟨rfl, p', r1, r2, (Does.of_below B1.out (fun _ hk => .inl hk)).trans r3⟩
  · have HV : Hid (M = (p.vm, r)) := Lib.hid (by
      rw [← HM.out]
      have h2 : readyE p.vm.down [s, t] = r := HRR.out
      unfold Vm.rename
      rw [hinder_names (by rw [h2]; exact h9), h2])
    have d0 : (r != 0) = true := by simpa using h9
    clear h9
    go_enter Try.func22, Try.ntmps22
    go_wp2_with (go_at_call 47; refine HR.out.mono ?_; rintro e w1 ⟨rfl, hw⟩; subst hw)
    go_ret
    rw [HV.out]
    exact ⟨rfl, p, H1.out, rfl, Does.of_below B1.out (fun _ hk => .inl hk)⟩

end Go.Proofs.Ytjacjafpeajhaaa
