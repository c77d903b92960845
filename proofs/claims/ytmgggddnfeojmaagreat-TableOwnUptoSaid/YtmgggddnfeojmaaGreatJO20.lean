/-
  Walks: the program's disk: Append. Walks: the program's disk: Revive. Walks: a nil disk; what each call answers and leaves, by what is read of the disk alone. Walks: a nil table's Get. Walks: Get. All that a table tells of a range: the law as the one who goes.
-/
import Derived.Laws.ResultCell
import Derived.Test.YtmgggddnfeojmaaGreatJO08
import Derived.Test.YtmgggddnfeojmaaGreatJO19
set_option linter.unusedSimpArgs false
set_option linter.unusedVariables false
namespace Go.Proofs.YtmgggddnfeojmaaGreat
open Go.RowKit
open Go.Maps
theorem Bys.does {S S' : Nat → Prop} {w w' : World} {A : Option Addr} {L : List Int} (h : Bys w A L) (hd : Does S S' w w') (hS : ∀ ad, A = some ad → ¬ S ad.block) : Bys w' A L := by
  rcases h with h | ⟨ad, rfl, h2⟩
  · exact .inl h
  · refine .inr ⟨ad, rfl, fun j x hx => ?_⟩
    have hc := h2 j x hx
    have hl := World.block_lt_of_cell? w _ hc
    rw [World.cell?_of_block (w := w) (hd.block _ hl (by rw [add_block]; exact hS ad rfl))]
    exact hc
set_option maxRecDepth 100000 in
set_option maxHeartbeats 8000000 in
theorem append_any (B g : Nat) (p : Pk) (s : ByteArray) (bA : Option Addr) (b : List Int) (m bc : Nat) (w : World) (h : PSt w B g p) (hs : s.size ≤ 140737488355328) (hbl : b.length = m) (hbb : Byt b) (hby : Bys w bA b) (hbo : ∀ ad, bA = some ad → ¬ p.own g ad.block ∧ ad.block < w.heap.size)
    (hsum : sumP p.l + m ≤ 4611686018427387904) (hlg : ∀ q ∈ p.l, q.d.l.length + m ≤ 140737488355328) (hm : m ≤ 140737488355328) (hl : p.l.length < maxLen) :
    Calls Tryz.prog 35 #[.pointer (some ⟨g, 0, none⟩), .string s, .slice bA m bc] w fun e w' => e = .returned (.int .i64 (p.vm.append s b).2) ∧ Rest w B g p (p.vm.append s b).1 w' := by
  have H := Lib.hid h
  have HO := Lib.hid (And.intro hbl (And.intro hbb (And.intro hby hbo)))
  have HS := Lib.hid (And.intro hsum (And.intro hlg hl))
  obtain ⟨M, hM⟩ : ∃ M, p.vm.append s b = M := ⟨_, rfl⟩
  rw [hM]
  have HM := Lib.hid hM
  obtain ⟨w1, hw1⟩ : ∃ w1, w.alloc (.cells #[.string s] 9) = w1 := ⟨_, rfl⟩
  have B1 : Hid (Below w.heap.size w w1) := Lib.hid (hw1 ▸ below_new _ _)
  have H1 := Lib.hid (H.out.kept B1.out)
  have HR := Lib.hid (ready_any g p (some ⟨w.heap.size, 0, none⟩) [s] 1 1 w1 H1.out.at_ rfl (by rw [← hw1]; exact lit_lies w [.string s] _ rfl _) (by omega) (fun t ht => by rw [List.mem_singleton] at ht; subst ht; omega))
  obtain ⟨r, hr⟩ : ∃ r, readyE p.down [s] = r := ⟨_, rfl⟩
  rw [hr] at HR
  have HRR := Lib.hid hr
  clear h hbl hbb hby hbo hsum hlg hl hM hr
  by_cases h9 : r = 0
  · subst h9
    obtain ⟨z, hz⟩ : ∃ z, (sumP p.l) = z := ⟨_, rfl⟩
    have hz0 : 0 ≤ z := by rw [← hz]; unfold sumP; omega
    have hz1 : z + m ≤ 4611686018427387904 := by rw [← hz]; exact HS.out.1
    have hsz : p.size = z := by
      rw [H.out.size, hz]
      unfold wrap64
      omega
    obtain ⟨-, c1, c2, -⟩ := H1.out.at_.cell
    rw [hsz] at c1
    have HROOM := Lib.hid H.out.room
    obtain ⟨room, hroom⟩ : ∃ room, p.room = room := ⟨_, rfl⟩
    rw [hroom] at c2 HROOM
    have HM1 : Hid (M = if 0 ≤ room ∧ room < z + m then (p.vm, 21) else if p.vm.step.2 ≠ 0 then p.vm.step else ({ p.vm.step.1 with fs := appM s b (if findM s (p.l.map Pf.rd) = none then insM (s, [], 0) (p.l.map Pf.rd) else p.l.map Pf.rd) }, 0)) := Lib.hid (by
      rw [← HM.out]
      unfold Vm.append
      rw [show readyE p.vm.down [s] = 0 from HRR.out, if_neg (by simp)]
      have e : ((b.length + sumM p.vm.fs : Nat) : Int) = z + m := by
        rw [← hz, HO.out.1]
        unfold sumP
        show ((m + sumM (p.l.map Pf.rd) : Nat) : Int) = _
        omega
      rw [e, show p.vm.room = room from hroom]
      rfl)
    have HRO := Lib.hid hroom
    have HSZ := Lib.hid (And.intro hz hsz)
    clear hz hsz hroom HM
    go_enter Tryz.func35, Tryz.ntmps35
    go_upto_region 4 with (go_at_call 57; refine HR.out.mono ?_; rintro e w2 ⟨rfl, hw⟩; subst hw)
    obtain ⟨hr0, hr1⟩ := HROOM.out
    obtain ⟨fv, hfv⟩ : ∃ fv, decide (0 ≤ room ∧ room < z + m) = fv := ⟨_, rfl⟩
    have HFV := Lib.hid hfv
    clear hfv
    go_cut [35] from 17 to 35 (fun t35 wx => t35 = .bool fv ∧ Hid (Below w1.heap.size w1 wx))
    case first =>
      by_cases hf0 : 0 ≤ room
      · have e0 : decide (0 ≤ room) = true := by simpa using hf0
        by_cases hf1 : room - z < m
        · have e1 : decide (room - z < (m : Int)) = true := by simpa using hf1
          go_quiet (fail)
          go_wp2_with fail
          go_meet
          exact ⟨by rw [← HFV.out]; simp; omega, Lib.hid (below_drewN (Below.refl _ _) _)⟩
        · have e1 : decide (room - z < (m : Int)) = false := by simpa using hf1
          go_quiet (fail)
          go_wp2_with fail
          go_meet
          exact ⟨by rw [← HFV.out]; simp; omega, Lib.hid (below_drewN (Below.refl _ _) _)⟩
      · have e0 : decide (0 ≤ room) = false := by simpa using hf0
        go_quiet (fail)
        go_wp2_with fail
        go_meet
        exact ⟨by rw [← HFV.out]; simp; omega, Lib.hid (below_drewN (Below.refl _ _) _)⟩
    case rest =>
      obtain ⟨rfl, hbc⟩ := hcut
      have BC : Hid (Below w.heap.size w wc) := Lib.hid (B1.out.trans (hbc.out.mono B1.out.size))
      have HC := Lib.hid (H.out.kept BC.out)
      clear c1 c2 hr0 hr1
      by_cases hfull : 0 ≤ room ∧ room < z + m
      · have hfv : fv = true := by rw [← HFV.out]; exact decide_eq_true hfull
        subst hfv
        have HV : Hid (M = (p.vm, 21)) := Lib.hid (by rw [HM1.out, if_pos hfull])
        clear hfull
        go_wp2_with fail
        go_ret
        rw [HV.out]
        exact ⟨rfl, p, HC.out, rfl, Does.of_below BC.out (fun _ hk => .inl hk)⟩
      · have hfv : fv = false := by rw [← HFV.out]; exact decide_eq_false hfull
        subst hfv
        have HM2 : Hid (M = if p.vm.step.2 ≠ 0 then p.vm.step else ({ p.vm.step.1 with fs := appM s b (if findM s (p.l.map Pf.rd) = none then insM (s, [], 0) (p.l.map Pf.rd) else p.l.map Pf.rd) }, 0)) := Lib.hid (by rw [HM1.out, if_neg hfull])
        clear hfull HM1
        have HST := Lib.hid (step_any g p wc HC.out.at_ HC.out.left)
        obtain ⟨t1, t2, t3, t4, t5, t6, t7, t8, t9⟩ := step_vm p
        have HE := Lib.hid (fun (W : World) (hk : PkAt W g (stepP p).1) (hb : BelowX wc.heap.size g wc W) => HC.out.step hk hb)
        obtain ⟨y1, hy1⟩ : ∃ y1, (stepP p).1 = y1 := ⟨_, rfl⟩
        obtain ⟨y2, hy2⟩ : ∃ y2, (stepP p).2 = y2 := ⟨_, rfl⟩
        rw [hy1] at t1 t3 t4 t5 t6 t7 t8 t9 HST HE
        rw [hy2] at t2 HST
        by_cases h8 : y2 = 0
        · subst h8
          have HM3 : Hid (M = ({ y1.vm with fs := appM s b (if findM s (y1.l.map Pf.rd) = none then insM (s, [], 0) (y1.l.map Pf.rd) else y1.l.map Pf.rd) }, 0)) := Lib.hid (by rw [HM2.out, if_neg (by rw [← t2]; simp), ← t1, t3])
          have HY := Lib.hid (And.intro t3 (And.intro t4 (And.intro t5 (And.intro t8 t9))))
          have HYO : Hid (∀ k, y1.own g k → p.own g k) := Lib.hid (fun k hk => by
            unfold Pk.own Pk.inner at hk ⊢
            rw [t3, t4, t5] at hk
            exact hk)
          have HSZ1 : Hid (y1.size = z) := Lib.hid (by rw [t8]; exact HSZ.out.2)
          clear t1 t2 t3 t4 t5 t6 t7 t8 t9 hy1 hy2 HM2
          obtain ⟨o, ho⟩ : ∃ o, vfindP s y1.l = o := ⟨_, rfl⟩
          cases o with
          | some q =>
            obtain ⟨i, hi, hq⟩ := findM_P ho
            have HQ := Lib.hid (And.intro ho (And.intro hi (And.intro hq (findP_mem ho).1)))
            have HV : Hid (∀ A' c', M = ({ y1.vm with fs := (y1.l.set i { q with d := ⟨A', c', q.d.l ++ b⟩ }).map Pf.rd }, 0)) := Lib.hid (fun A' c' => by rw [HM3.out, hi, if_neg (by simp), appM_P hi hq])
            have HLQ : Hid (q.d.l.length + m ≤ 140737488355328) := Lib.hid (HS.out.2.1 q (by rw [← HY.out.1]; exact (findP_mem ho).1))
            have HAP := Lib.hid (fun (W w5 : World) (A' : Option Addr) (c' : Nat) (hP : PSt W B g y1) (hr : Row w5 B A' c' (q.d.l ++ b)) (hg : W.grownBy w5 (q.d.a.map (fun ad => ad.block))) (hloc : ∀ ad', A' = some ad' → (∃ ad, q.d.a = some ad ∧ ad'.block = ad.block) ∨ W.heap.size ≤ ad'.block) => hP.appended hq hr hg hloc HO.out.2.1)
            have HMID := Lib.hid (fun (W w5 : World) (hP : PSt W B g y1) (hg : W.grownBy w5 (q.d.a.map (fun ad => ad.block))) => hP.app_mid (findP_mem ho).1 hg)
            have HLK := Lib.hid (fun (W : World) (hP : PSt W B g y1) => look_run hP.inn.map s (by unfold maxLen; omega))
            rw [ho] at HLK
            unfold ptrOf Pf.at_ at HLK
            have HFI := Lib.hid (fun (W : World) (hP : PSt W B g y1) => hP.inn.file q (findP_mem ho).1)
            obtain ⟨qs, qh, ⟨qa, qc, ql⟩, qy⟩ := q
            simp only at HLK HFI HAP HMID HLQ HV
            obtain ⟨n, hn⟩ : ∃ n, ql.length = n := ⟨_, rfl⟩
            have HNN := Lib.hid hn
            clear ho hi hq hn HM3
            go_upto_region 13 with (go_at_call 58; refine HST.out.mono ?_; rintro e w3 ⟨rfl, hk, hb⟩; have E3 := Lib.hid (HE.out w3 hk hb); have hlk := HLK.out w3 E3.out.1; have k0 := E3.out.1.at_.cell.1; clear hk hb)
            obtain ⟨a0, -⟩ := (HFI.out w3 E3.out.1).at_.cell
            unfold Sl.val at a0
            simp only at a0
            rw [HNN.out] at a0
            have BY3 : Hid (Bys w3 bA b) := Lib.hid (((HO.out.2.2.1).does ((Does.of_below (S := p.own g) (S' := p.own g) BC.out (fun _ hk => .inl hk)).trans E3.out.2) (fun ad ha => (HO.out.2.2.2 ad ha).1)))
            have LOW : Hid (B ≤ w3.heap.size) := Lib.hid (by have := E3.out.1.low; have := E3.out.1.at_.lt; omega)
            go_wp2_with (at_builtin; refine wpList_append_row_at _ rfl (.tmp 59) (.tmp 60) rfl B qa qc ql b bA n m bc rfl rfl HNN.out HO.out.1 (HFI.out w3 E3.out.1).row BY3.out LOW.out (by have := HLQ.out; have := HO.out.1; omega) ?_; intro A5 c5 w5 r5 g5 l5; have R5 := Lib.hid (And.intro r5 (And.intro g5 l5)); obtain ⟨m1, m2⟩ := HMID.out w3 w5 E3.out.1 g5; obtain ⟨v0, -⟩ := m1.cell; have v1 := m1.frozen 0; obtain ⟨-, v2, -⟩ := m2.cell; have v3 := m2.frozen 1; rw [HSZ1.out] at v2; clear r5 g5 l5 m1 m2)
            go_ret
            obtain ⟨r5, g5, l5⟩ := R5.out
            obtain ⟨f1, f2⟩ := HAP.out w3 w5 A5 c5 E3.out.1 r5 g5 l5
            rw [HV.out A5 c5]
            have e1 : (ql ++ b).length = n + m := by rw [List.length_append, HNN.out, HO.out.1]
            have e2 : wrap64 (y1.size + b.length) = z + m := by
              rw [HSZ1.out, HO.out.1]
              unfold wrap64
              omega
            rw [e1, e2] at f1 f2
            exact ⟨rfl, _, f1, rfl, (Does.of_below BC.out (fun _ hk => .inl hk)).trans (E3.out.2.trans f2)⟩
          | none =>
            have HNO := Lib.hid ho
            have HLK := Lib.hid (fun (W : World) (hP : PSt W B g y1) => look_run hP.inn.map s (by unfold maxLen; omega))
            rw [ho] at HLK
            unfold ptrOf at HLK
            have HOK : Hid (∀ W, PSt W B g y1 → FileOk (W.alloc (.cells #[.slice none 0 0, .int .i64 0] 94)) B ⟨s, W.heap.size, ⟨none, 0, []⟩, 0⟩) := Lib.hid (fun W hP => ⟨file_made W none 0 0 [] 0 rfl, by have := hP.low; have := hP.at_.lt; show B ≤ W.heap.size; omega, Row.nil _ _, Byt.nil⟩)
            have HAPT : Hid (∀ W, PSt W B g y1 → ∀ x ∈ y1.l, x.s ≠ s ∧ Apart ⟨s, W.heap.size, ⟨none, 0, []⟩, 0⟩ x) := Lib.hid (fun W hP x hx => ⟨vfindP_none HNO.out x hx, by
              refine ⟨?_, fun ad ad' h1 => by cases h1⟩
              have := (hP.inn.file x hx).at_.lt
              show W.heap.size ≠ x.h
              omega⟩)
            have HPU := Lib.hid (fun (W : World) (hP : PSt W B g y1) => put_any B g y1 ⟨s, W.heap.size, ⟨none, 0, []⟩, 0⟩ (W.alloc (.cells #[.slice none 0 0, .int .i64 0] 94)) (hP.kept (below_new _ _)) (HOK.out W hP) (HAPT.out W hP) (by have := HS.out.2.2; rw [← HY.out.1] at this; exact this) (by show s.size ≤ _; omega) (by show s.size ≤ _; unfold maxLen; omega))
            simp only at HPU
            clear ho
            go_upto_region 13 with (first
              | (go_at_call 58; refine HST.out.mono ?_; rintro e w3 ⟨rfl, hk, hb⟩; have E3 := Lib.hid (HE.out w3 hk hb); have hlk := HLK.out w3 E3.out.1; have k0 := E3.out.1.at_.cell.1; clear hk hb)
              | (go_at_call 49; refine (HPU.out w3 E3.out.1).mono ?_; rintro e w4 ⟨rfl, h4, d4⟩; have E4 := Lib.hid (And.intro h4 d4); clear h4 d4))
            obtain ⟨q2, hq2⟩ : ∃ q2 : Pf, (⟨s, w3.heap.size, ⟨none, 0, []⟩, 0⟩ : Pf) = q2 := ⟨_, rfl⟩
            have HQ2 := Lib.hid hq2
            have hmem : q2 ∈ (putP y1 q2).l := mem_insP.2 (.inl rfl)
            have hfp : vfindP s (putP y1 q2).l = some q2 := by
              have := findP_of (q := q2) (l := (putP y1 q2).l) (by
                have := E4.out.1.inn.srt
                rw [hq2] at this
                exact this) hmem
              rw [← hq2] at this ⊢
              exact this
            obtain ⟨i, hi, hq⟩ := findM_P hfp
            rw [hq2] at E4
            have HV : Hid (∀ A' c', M = ({ y1.vm with fs := ((putP y1 q2).l.set i { q2 with d := ⟨A', c', q2.d.l ++ b⟩ }).map Pf.rd }, 0)) := Lib.hid (fun A' c' => by
              rw [HM3.out, findM_none HNO.out, if_pos rfl]
              have e : insM (s, [], 0) (y1.l.map Pf.rd) = (putP y1 q2).l.map Pf.rd := by
                show _ = (insP q2 y1.l).map Pf.rd
                rw [insP_rd, ← hq2]
                rfl
              rw [e, appM_P hi hq])
            have HQ := Lib.hid (And.intro hq hmem)
            have hz4 : (putP y1 q2).size = z := by
              show wrap64 (y1.size + q2.d.l.length) = z
              rw [HSZ1.out, ← hq2]
              simp only [List.length_nil]
              unfold wrap64
              omega
            have HZ4 := Lib.hid hz4
            have BY4 : Hid (Bys w4 bA b) := Lib.hid (by
              have hd0 := ((Does.of_below (S := p.own g) (S' := p.own g) BC.out (fun _ hk => .inl hk)).trans E3.out.2)
              have h3 : Bys w3 bA b := (HO.out.2.2.1).does hd0 (fun ad ha => (HO.out.2.2.2 ad ha).1)
              refine (h3.alloc _).does E4.out.2 (fun ad ha hk => (HO.out.2.2.2 ad ha).1 ?_)
              rcases hk with e | e
              · exact .inl e
              · exact .inr (.inl (by rw [← HY.out.2.1]; exact e)))
            have LOW : Hid (B ≤ w4.heap.size) := Lib.hid (by have := E4.out.1.low; have := E4.out.1.at_.lt; omega)
            have a0 := (E4.out.1.inn.file q2 hmem).at_.cell.1
            have RW := Lib.hid (E4.out.1.inn.file q2 hmem).row
            rw [← hq2] at a0 RW
            unfold Sl.val at a0
            simp only [List.length_nil] at a0 RW
            clear hfp hi hq hz4 hmem hlk k0 hq2
            go_wp2_with (at_builtin; refine wpList_append_row_at _ rfl (.tmp 59) (.tmp 60) rfl B none 0 [] b bA 0 m bc rfl rfl rfl HO.out.1 RW.out BY4.out LOW.out (by have := HO.out.1; simp only [List.length_nil]; omega) ?_; intro A5 c5 w5 r5 g5 l5; have R5 := Lib.hid (And.intro r5 (And.intro g5 l5)); obtain ⟨m1, m2⟩ := E4.out.1.app_mid HQ.out.2 (by rw [← HQ2.out]; exact g5); obtain ⟨v0, -⟩ := m1.cell; have v1 := m1.frozen 0; obtain ⟨-, v2, -⟩ := m2.cell; have v3 := m2.frozen 1; rw [HZ4.out] at v2; rw [← HQ2.out] at v0 v1; unfold Sl.val at v0; simp only [List.length_nil] at v0 v1; clear r5 g5 l5 m1 m2)
            go_ret
            obtain ⟨r5, g5, l5⟩ := R5.out
            have hq2 := HQ2.out
            obtain ⟨f1, f2⟩ := E4.out.1.appended (A' := A5) (c' := c5) HQ.out.1 (by rw [← hq2]; exact r5) (by rw [← hq2]; exact g5) (by rw [← hq2]; exact l5) HO.out.2.1
            rw [HV.out A5 c5]
            have e1 : (q2.d.l ++ b).length = m := by rw [← hq2, List.nil_append, HO.out.1]
            have e2 : wrap64 ((putP y1 q2).size + b.length) = z + m := by
              rw [HZ4.out, HO.out.1]
              unfold wrap64
              omega
            have e3 : q2.h = w3.heap.size := by rw [← hq2]
            rw [e1, e2, e3] at f1 f2
            have hd3 : Does (y1.own g) (fun k => y1.own g k ∨ k = w3.heap.size) w3 (w3.alloc (.cells #[.slice none 0 0, .int .i64 0] 94)) := Does.of_below (below_new _ _) (fun k hk => hk.imp id (fun e => by omega))
            have hd4 : Does (fun k => y1.own g k ∨ k = w3.heap.size) ((putP y1 q2).own g) (w3.alloc (.cells #[.slice none 0 0, .int .i64 0] 94)) w4 := E4.out.2.wider (fun k hk => hk.elim (fun e => .inl (.inl e)) (fun e => .inl (.inr (.inl e)))) (fun k hk => by
              rcases hk with e | e | e | ⟨x, hx, hk⟩
              · exact .inl (.inl (.inl e))
              · exact .inl (.inl (.inr (.inl e)))
              · exact .inl (.inl (.inr (.inr (.inl e))))
              · rcases mem_insP.1 hx with ex | ex
                · rw [ex, ← hq2] at hk
                  rcases hk with e | ⟨ad, ha, e⟩
                  · exact .inl (.inr e)
                  · cases ha
                · exact .inl (.inl (.inr (.inr (.inr ⟨x, ex, hk⟩)))))
            exact ⟨rfl, _, f1, by rw [← e3]; rfl, ((((Does.of_below BC.out (fun _ hk => .inl hk)).trans E3.out.2).trans hd3).trans hd4).trans f2⟩
        · have HV : Hid (M = (y1.vm, y2)) := Lib.hid (by rw [HM2.out, if_pos (by rw [← t2]; exact h8), t1, t2])
          have d8 : (y2 != 0) = true := by simpa using h8
          clear h8 t1 t2 t3 t4 t5 t6 t7 t8 t9 hy1 hy2
          go_wp2_with (go_at_call 58; refine HST.out.mono ?_; rintro e w3 ⟨rfl, hk, hb⟩; have E3 := Lib.hid (HE.out w3 hk hb); clear hk hb)
          go_ret
          rw [HV.out]
          exact ⟨rfl, y1, E3.out.1, rfl, (Does.of_below BC.out (fun _ hk => .inl hk)).trans E3.out.2⟩
  · have HV : Hid (M = (p.vm, r)) := Lib.hid (by
      rw [← HM.out]
      unfold Vm.append
      rw [show readyE p.vm.down [s] = r from HRR.out, if_pos h9])
    have d0 : (r != 0) = true := by simpa using h9
    clear h9
    go_enter Tryz.func35, Tryz.ntmps35
    go_wp2_with (go_at_call 57; refine HR.out.mono ?_; rintro e w2 ⟨rfl, hw⟩; subst hw)
    go_ret
    rw [HV.out]
    exact ⟨rfl, p, H1.out, rfl, Does.of_below B1.out (fun _ hk => .inl hk)⟩
end Go.Proofs.YtmgggddnfeojmaaGreat
namespace Go.Proofs.YtmgggddnfeojmaaGreat
open Go.RowKit
open Go.Maps
theorem clone_n (A : Option Addr) (L : List Int) (n c : Nat) (w : World) (hn : L.length = n) (h : Bys w A L) (hl : n ≤ 140737488355328) :
    Calls Tryz.prog 42 #[.slice A n c] w fun e w' => ∃ A' c', e = .returned (.slice A' n c') ∧ Row w' w.heap.size A' c' L ∧ Below w.heap.size w w' := by
  refine (vclone_any A L n c w hn h hl).mono ?_
  rintro e w' ⟨A', c', rfl, r1, r2⟩
  exact ⟨A', c', by rw [hn], r1, r2⟩
theorem Lies.does {S S' : Nat → Prop} {w w' : World} {A : Option Addr} {xs : List Value} (h : Lies w A xs) (hd : Does S S' w w') (hS : ∀ ad, A = some ad → ¬ S ad.block) : Lies w' A xs := by
  rcases h with h | ⟨ad, rfl, h2⟩
  · exact .inl h
  · refine .inr ⟨ad, rfl, fun j u hu => ?_⟩
    have hc := h2 j u hu
    have hl := World.block_lt_of_cell? w _ hc
    rw [World.cell?_of_block (w := w) (hd.block _ hl (by rw [add_block]; exact hS ad rfl))]
    exact hc
end Go.Proofs.YtmgggddnfeojmaaGreat
namespace Go.Proofs.YtmgggddnfeojmaaGreat
open Go.RowKit
open Go.Maps
set_option maxHeartbeats 2000000 in
theorem append_nil (s : ByteArray) (v : Value) (w : World) : Calls Tryz.prog 35 #[.pointer none, .string s, v] w fun e w' => e = .returned (.int .i64 1) ∧ Below w.heap.size w w' := by
  have HB := Lib.hid (below_new w (.cells #[.string s] 9))
  have HR := Lib.hid (ready_nil (some ⟨w.heap.size, 0, none⟩) 1 1 (w.alloc (.cells #[.string s] 9)))
  go_enter Tryz.func35, Tryz.ntmps35
  go_wp2_with (go_at_call 57; refine HR.out.mono ?_; rintro e w1 ⟨rfl, hw⟩; subst hw)
  go_ret
  exact ⟨rfl, HB.out⟩
/-- It fits, with so many bytes more. -/
structure Fits (m : Vm) (N : Nat) : Prop where
  few : m.fs.length * 48 ≤ 140737488355328
  long : ∀ x ∈ m.fs, x.2.1.length + N ≤ 140737488355328
  names : ∀ x ∈ m.fs, x.1.size ≤ 140737488355328
theorem vm_len {p : Pk} {m : Vm} (h : p.vm = m) : p.l.length = m.fs.length := by
  subst h
  show _ = (p.l.map Pf.rd).length
  rw [List.length_map]
theorem vm_mem {p : Pk} {m : Vm} (h : p.vm = m) {q : Pf} (hq : q ∈ p.l) : q.rd ∈ m.fs := by
  subst h
  exact List.mem_map_of_mem hq
theorem vm_sum {p : Pk} {m : Vm} (h : p.vm = m) : sumP p.l = (sumM m.fs : Nat) := by
  subst h
  rfl
theorem Fits.pf {p : Pk} {m : Vm} {N : Nat} (h : p.vm = m) (hf : Fits m N) : p.l.length * 48 ≤ 140737488355328 ∧ (∀ q ∈ p.l, q.d.l.length + N ≤ 140737488355328) ∧ ∀ q ∈ p.l, q.s.size ≤ 140737488355328 := by
  refine ⟨?_, fun q hq => ?_, fun q hq => ?_⟩
  · rw [vm_len h]
    exact hf.few
  · exact hf.long _ (vm_mem h hq)
  · exact hf.names _ (vm_mem h hq)
theorem read_vm (B g : Nat) (p : Pk) (m : Vm) (s : ByteArray) (w : World) (r : List Int × Int) (h : PSt w B g p) (hv : p.vm = m) (hs : s.size ≤ 140737488355328) (hf : Fits m 0) (hr : m.read s = r) :
    Calls Tryz.prog 29 #[.pointer (some ⟨g, 0, none⟩), .string s] w (Gets w r) := by
  subst hv
  subst hr
  exact vread_any B g p s w h hs (fun q hq => by have := (hf.pf rfl).2.1 q hq; omega)
theorem sync_vm (B g : Nat) (p : Pk) (m m' : Vm) (r : Int) (s : ByteArray) (w : World) (h : PSt w B g p) (hv : p.vm = m) (hs : s.size ≤ 140737488355328) (hr : m.sync s = (m', r)) :
    Calls Tryz.prog 37 #[.pointer (some ⟨g, 0, none⟩), .string s] w fun e w' => e = .returned (.int .i64 r) ∧ Rest w B g p m' w' := by
  subst hv
  have := sync_any B g p s w h hs
  rwa [hr] at this
theorem append_vm (B g : Nat) (p : Pk) (m m' : Vm) (r : Int) (s : ByteArray) (bA : Option Addr) (b : List Int) (n bc : Nat) (w : World) (h : PSt w B g p) (hv : p.vm = m) (hs : s.size ≤ 140737488355328) (hbl : b.length = n) (hbb : Byt b) (hby : Bys w bA b) (hbo : ∀ ad, bA = some ad → ¬ p.own g ad.block ∧ ad.block < w.heap.size) (hf : Fits m n) (hsum : sumM m.fs + n ≤ 4611686018427387904) (hn : n ≤ 140737488355328) (hr : m.append s b = (m', r)) :
    Calls Tryz.prog 35 #[.pointer (some ⟨g, 0, none⟩), .string s, .slice bA n bc] w fun e w' => e = .returned (.int .i64 r) ∧ Rest w B g p m' w' := by
  have hl := vm_len hv
  have hsm := vm_sum hv
  have hp := hf.pf hv
  have hfw := hf.few
  subst hv
  have := append_any B g p s bA b n bc w h hs hbl hbb hby hbo (by rw [hsm]; omega) hp.2.1 hn (by unfold maxLen; omega)
  rwa [hr] at this
theorem Rest.below {w w' : World} {B g : Nat} {p : Pk} {m : Vm} (hP : PSt w B g p) (h : Rest w B g p m w') : Below B w w' := by
  obtain ⟨p', h1, h2, h3⟩ := h
  exact h3.below (by have := hP.low; have := hP.at_.lt; omega) (fun k hk => (hP.owned k hk).1)
end Go.Proofs.YtmgggddnfeojmaaGreat
namespace Go.Proofs.YtmgggddnfeojmaaGreat
open Go.RowKit
theorem results_ccc {fn : Func} {p q r : Tmp} {t1 t2 t3 : TypeId} (h : fn.results = #[.cell p t1, .cell q t2, .cell r t3]) (tmps : Array Value) (P : Program) (w : World) :
    (results fn tmps).run P w =
      ((asAddr (tmps.getD p undef)).run P w).andThen fun a w₁ => ((loadVar t1 a).run P w₁).andThen fun v w₂ =>
      ((asAddr (tmps.getD q undef)).run P w₂).andThen fun a w₁ => ((loadVar t2 a).run P w₁).andThen fun v2 w₂ =>
      ((asAddr (tmps.getD r undef)).run P w₂).andThen fun a w₁ => ((loadVar t3 a).run P w₁).andThen fun v3 w₂ => .ok (.tuple #[v, v2, v3]) w₂ := by
  simp only [results, h]
  simp [Sem.run_bind, Result.andThen]
end Go.Proofs.YtmgggddnfeojmaaGreat
namespace Go.Proofs.YtmgggddnfeojmaaGreat
open Go.RowKit Go.Shelf
attribute [local go_sem] Oper.semAt_some
theorem res_cells {H : Nat} {y : En} {b : Bool} {er : Int} {W : World} (h : ResG H y b er W) :
    (W.cell? ⟨H + 1, 0, none⟩ = some (.slice y.k.a y.k.l.length y.k.c) ∧ W.cell? ⟨H + 1, 1, none⟩ = some (.int .i64 y.s) ∧ W.cell? ⟨H + 1, 2, none⟩ = some (.bool y.d) ∧ W.cell? ⟨H + 1, 3, none⟩ = some (.slice y.v.a y.v.l.length y.v.c) ∧ W.cell? ⟨H + 1 + 1, 0, none⟩ = some (.bool b) ∧ W.cell? ⟨H + 1 + 1 + 1, 0, none⟩ = some (.int .i64 er)) ∧
    (W.frozen? ⟨H + 1, 0, none⟩ = false ∧ W.frozen? ⟨H + 1, 1, none⟩ = false ∧ W.frozen? ⟨H + 1, 2, none⟩ = false ∧ W.frozen? ⟨H + 1, 3, none⟩ = false ∧ W.frozen? ⟨H + 1 + 1, 0, none⟩ = false ∧ W.frozen? ⟨H + 1 + 1 + 1, 0, none⟩ = false) := by
  obtain ⟨h1, h2, h3⟩ := h
  refine ⟨⟨?_, ?_, ?_, ?_, ?_, ?_⟩, ?_, ?_, ?_, ?_, ?_, ?_⟩ <;> simp [World.cell?, World.frozen?, h1, h2, h3, Sl.val]
theorem put_res {H : Nat} {y : En} {b : Bool} {er : Int} {W : World} (h : ResG H y b er W) : ResG H y b er (W.putObj (H + 6) (.deferred none)) :=
  h.of (fun g o h1 h2 ho => (World.putObj_heap_other (by omega)).trans ho)
theorem get_answer {H : Nat} {y : En} {b : Bool} {er : Int} {w W : World} {t : Tm} {K : List Int} {s : Int} (hw : w.heap.size = H) (hr : ResG H y b er W) (ha : AnsG (getP t.tb K s) y b er) (r1 : Row W H y.k.a y.k.c y.k.l) (r2 : Row W H y.v.a y.v.c y.v.l) (ht : Tw t.mb w W) (hT : TabW (ClG H W) W t) (hm : t.mb < H) (hK : W.heap[H + 6]? = some (.deferred (some []))) :
    GetE t K s w (.returned (.tuple #[.agg #[.slice y.k.a y.k.l.length y.k.c, .int .i64 y.s, .bool y.d, .slice y.v.a y.v.l.length y.v.c], .bool b, .int .i64 er])) (W.putObj (H + 6) (.deferred none)) := by
  have hg := grownBy_putObj' W (H + 6) (.deferred none)
  have hr' : ∀ r, some (H + 6) = some r → H + 6 ≤ r ∧ ∃ o : Obj, W.heap[r]? = some o ∧ o.isCells = false := fun r e => by injection e with e; subst e; exact ⟨Nat.le_refl _, _, hK, rfl⟩
  subst hw
  exact ⟨y, b, er, ha, rfl, own_abide r1 hg (fun r e => (hr' r e).2), own_abide r2 hg (fun r e => (hr' r e).2), ht.grow hg (fun r e => by have := (hr' r e).1; omega), (hT.fr (fr_grown (H := w.heap.size) hg (fun r e => by injection e with e; omega)) (by unfold ClG; omega)).at_⟩
set_option maxRecDepth 100000 in
set_option maxHeartbeats 8000000 in
theorem get_any (t : Tm) (k : Sl) (s : Int) (w : World) (h : TabAt w t) (hk : In w k.a k.l k.l.length k.c) (hrl : t.R.length ≤ 2305843009213693952) :
    Calls Tryz.prog 23 #[.pointer (some ⟨t.b, 0, none⟩), .slice k.a k.l.length k.c, .int .i64 s] w (GetE t k.l s w) := by
  have HH := Lib.hid h
  have HK := Lib.hid hk
  have HRL := Lib.hid hrl
  have HMT : Hid (t.mb < w.heap.size) := Lib.hid (by obtain ⟨es, ck, hm⟩ := h.mapAt; exact (Array.getElem?_eq_some_iff.1 hm).1)
  obtain ⟨n, hn⟩ : ∃ n, k.l.length = n := ⟨_, rfl⟩
  have HN := Lib.hid hn
  rw [hn]
  clear h hk hrl hn
  refine (callsIn_wide (n := 9)).1 ?_
  refine callsIn_of_wp_marks Tryz.func23 rfl trivial ?_ rfl
  simp only [Tryz.ntmps23, List.size_toArray, List.length_cons, List.length_nil, Nat.reduceAdd, Nat.reduceSub, Array.replicate_succ, Array.replicate_zero, List.push_toArray, List.append_toArray, List.nil_append, List.cons_append]
  gi_wp2_with (refine ⟨trivial, ?_⟩; gi_at_call 44; refine (callsIn_wide.2 (from_any _ _ _ _ _ _ _ _ _ _)).mono ?_; rintro e w' ⟨rfl, rfl⟩)
  obtain ⟨hq, hs, hb⟩ := allocs_get [.cells #[.slice k.a n k.c] 42, .cells #[.slice none 0 0, .int .i64 0, .bool false, .slice none 0 0] 48, .cells #[.bool false] 4, .cells #[.int .i64 0] 30, .cells #[.pointer (some ⟨t.b, 0, none⟩)] 37, .cells #[.slice k.a n k.c, .int .i64 s, .bool false, .slice none 0 0] 48] w
  have q0 := hq 0 _ rfl
  have q1 := hq 1 _ rfl
  have q2 := hq 2 _ rfl
  have q3 := hq 3 _ rfl
  have q4 := hq 4 _ rfl
  have q5 := hq 5 _ rfl
  simp only [List.foldl_cons, List.foldl_nil, List.length_cons, List.length_nil, Nat.reduceAdd, Nat.add_zero] at hs hb q0 q1 q2 q3 q4 q5
  clear hq
  obtain ⟨W0, hW0⟩ : ∃ W0, ((((((w.alloc (.cells #[.slice k.a n k.c] 42)).alloc (.cells #[.slice none 0 0, .int .i64 0, .bool false, .slice none 0 0] 48)).alloc (.cells #[.bool false] 4)).alloc (.cells #[.int .i64 0] 30)).alloc (.cells #[.pointer (some ⟨t.b, 0, none⟩)] 37)).alloc (.cells #[.slice k.a n k.c, .int .i64 s, .bool false, .slice none 0 0] 48)) = W0 := ⟨_, rfl⟩
  rw [hW0] at q0 q1 q2 q3 q4 q5 hs hb ⊢
  clear hW0
  obtain ⟨H, hH⟩ : ∃ H, w.heap.size = H := ⟨_, rfl⟩
  have hI0 : IG H w t k s (0, W0) W0 := by
    rw [hH] at q0 q1 q2 q3 q4 q5
    refine ⟨rfl, ⟨Tw.of_below hb, ?_, ⟨q1, q2, q3⟩, q4, ?_⟩, (HH.out.w (fun g hg => by unfold ClG; omega)).kept hb⟩
    · rw [q0, ← HN.out]
      rfl
    · rw [q5, ← HN.out]
      rfl
  rw [hH] at hs HMT ⊢
  have hOI : OwnAt (H + 6) (IG H w t k s) := OwnAt.ig (by omega) HMT.out
  have hOX : OwnAt (H + 6) (XG H w t k s) := OwnAt.xg (by omega) HMT.out
  rw [← hs] at hOI hOX
  clear q0 q1 q2 q3 q4 q5 hb
  refine range_toldK (σ := Nat × World) (gf := 70) (lb := #[.pointer (some ⟨H + 4, 0, none⟩), .pointer (some ⟨H + 5, 0, none⟩)]) rfl (enters_of Tryz.func70 (by kernel_rfl) rfl)
    (IG H w t k s) (XG H w t k s) (fun z => if z.1 = 2 then .exit 0 else .ret) hOI hOX (fun _ _ _ _ => False) (OffG t k s) (0, W0) hI0
    (fun z => z.1 = 0 ∧ goP t.tb (keyE k s).rd = ([], false)) (fun z => z.1 ≠ 0) ?size ?on ?off ?iter ?done ?left
  case size =>
    rintro z args z' W (h | ⟨-, -, (⟨y, M, -, rfl, -⟩ | ⟨-, rfl, -⟩)⟩)
    · exact h.elim
    · rfl
    · rfl
  case on =>
    rintro z args z' W h
    exact h.elim
  case iter =>
    intro R R' hR hRs hyes hno hR' hRs' W hi hr
    rw [hs] at hR hRs hno ⊢
    refine (from_iter 7 (H + 6 + 1) (H + 4) (H + 5) t (keyE k s) _ _ _ _ (get_asks hH HK.out HMT.out HH.out.mapAt R R' hR hRs hno) HRL.out W ⟨⟨⟨rfl, hi.2.1⟩, hr⟩, hi.2.2⟩).mono ?_
    rintro e W' ⟨hv, hq, hT⟩
    rcases hq with ⟨q1, q2, ⟨q3, q4⟩, q5⟩ | ⟨s', q1, z, q2, q3, q4⟩
    · exact ⟨hv, .inl ⟨(0, W'), ⟨rfl, Prod.ext (List.eq_nil_of_length_eq_zero q3) q1⟩, ⟨rfl, q4, hT⟩, q5⟩⟩
    · exact ⟨hv, .inr ⟨z, q2, q3, q4⟩⟩
  case done =>
    rintro z W ⟨d1, d2⟩ hi hK
    rw [hs] at hK ⊢
    obtain ⟨⟨p0, p1, p2, p3, p4, p5⟩, f0, f1, f2, f3, f4, f5⟩ := res_cells hi.2.1.res
    obtain ⟨r1, r2⟩ := setG_facts (e := .slice none 0 0) (f := .int .i64 0) (g := .bool false) (h := .slice none 0 0) (u := .bool false) (v := .int .i64 0) hi.2.1.res.1 hi.2.1.res.2.1 hi.2.1.res.2.2
    have hlt := (Array.getElem?_eq_some_iff.1 hK).1
    obtain ⟨e1, e2⟩ := xg_core (V := W) 0 HMT.out hH hi.2.1 (Fr.refl _ _) hi.2.2 (by omega) (Below.refl _ _) r2 (y := zeroEn) (b := false) (er := 0) r1 (.inr ⟨by rw [getP_of d2]; rfl, rfl, rfl, by rw [getP_of d2]; rfl⟩) (Row.nil _ _) (Row.nil _ _) (by omega) (fun e => by cases e)
    have hK2 := e1 _ _ hK (by omega)
    obtain ⟨-, e3, e4, ⟨y, b, er, e5, e6, e7, e8⟩, -⟩ := e2
    have HA := Lib.hid (get_answer (s := s) hH e5 e6 e7 e8 e4 e3 HMT.out hK2)
    have HR := Lib.hid (put_res e5)
    have HK2 := Lib.hid hK2
    clear hi hK r1 r2 e1 e3 e4 e5 e6 e7 e8 hK2
    gi_wp2
    refine ⟨by simp, .inl ⟨_, _, rfl, run_takeDeferred HK2.out, ?_⟩⟩
    refine ⟨_, ?_, HA.out⟩
    obtain ⟨⟨p0, p1, p2, p3, p4, p5⟩, -⟩ := res_cells HR.out
    rw [results_ccc rfl]
    go_simp
  case left =>
    rintro z W hl hi hK
    rw [hs] at hK ⊢
    have hi' := hi
    obtain ⟨e2, e3, e4, ⟨y, b, er, e5, e6, e7, e8⟩, e9⟩ := hi'
    by_cases hz : z.1 = 2
    · rw [if_pos hz]
      obtain ⟨⟨p0, p1, p2, p3, p4, p5⟩, f0, f1, f2, f3, f4, f5⟩ := res_cells e5
      obtain ⟨r1, r2⟩ := setG_facts (e := .slice none 0 0) (f := .int .i64 0) (g := .bool false) (h := .slice none 0 0) (u := .bool false) (v := .int .i64 0) e5.1 e5.2.1 e5.2.2
      have hlt := (Array.getElem?_eq_some_iff.1 hK).1
      obtain ⟨x1, x2⟩ := xg_zero HMT.out hH hi r2 (by omega)
      have hK2 := (r2.block (H + 6) (by omega)).trans hK
      have HA := Lib.hid (get_answer (y := zeroEn) (b := false) (er := 0) (s := s) hH r1 (.inr ⟨by rw [e9 hz], rfl, rfl, by rw [e9 hz]; rfl⟩) (Row.nil _ _) (Row.nil _ _) x1 x2 HMT.out hK2)
      have HR := Lib.hid (put_res (y := zeroEn) (b := false) (er := 0) r1)
      have HK2 := Lib.hid hK2
      clear hi hK r1 r2 e2 e3 e4 e5 e6 e7 e8 e9 hK2 x1 x2 hz hl
      gi_wp2
      refine ⟨by simp, .inl ⟨_, _, rfl, run_takeDeferred HK2.out, ?_⟩⟩
      refine ⟨_, ?_, HA.out⟩
      obtain ⟨⟨p0, p1, p2, p3, p4, p5⟩, -⟩ := res_cells HR.out
      rw [results_ccc rfl]
      go_simp
    · rw [if_neg hz]
      have HA := Lib.hid (get_answer (s := s) hH e5 e6 e7 e8 e4 e3 HMT.out hK)
      obtain ⟨⟨p0, p1, p2, p3, p4, p5⟩, -⟩ := res_cells (put_res e5)
      have HK2 := Lib.hid hK
      clear hK e2 e3 e4 e5 e6 e7 e8 e9 hi hz hl
      gi_wp2
      refine ⟨by simp, .inl ⟨_, _, rfl, run_takeDeferred HK2.out, ?_⟩⟩
      refine ⟨_, ?_, HA.out⟩
      rw [results_ccc rfl]
      go_simp
  case off =>
    rintro z args z' W ⟨h0, h2, hc⟩ hi hsz
    rw [hs] at hsz
    unfold RoundOf
    rw [hs]
    obtain ⟨J, hJ⟩ : ∃ J, (if z'.1 = 2 then Code.exit 0 else .ret) = J := ⟨_, rfl⟩
    rw [hJ]
    have HJ := Lib.hid hJ
    clear hJ
    rcases hc with ⟨y, M, hM, rfl, hE, hF, hz'⟩ | ⟨hM, rfl, hz'⟩
    · obtain ⟨yn, hyn⟩ : ∃ q, y.k.l.length = q := ⟨_, rfl⟩
      obtain ⟨vn, hvn⟩ : ∃ q, y.v.l.length = q := ⟨_, rfl⟩
      rw [En.val_eq, hyn, hvn]
      replace hz' := Lib.hid hz'
      gi_wp2
      refine ⟨Two.below ((Below.refl (H + 8) W).alloc hsz _) (by omega), fun W₂ g2 hl => ?_⟩
      obtain ⟨k2, f2, t2, s2, e2⟩ := ig_round hH HMT.out hi hsz g2 hl
      have y2 : EIn W₂ y := (hE.kept (below_new W _)).abide g2 (fun r e => by injection e with e; subst e; exact hl)
      clear g2 hl
      obtain ⟨E, hEE⟩ : ∃ E, W.heap.size = E := ⟨_, rfl⟩
      rw [hEE] at e2 ⊢
      obtain ⟨c0, c1, c2, c3⟩ : W₂.cell? ⟨E, 0, none⟩ = some (.slice y.k.a yn y.k.c) ∧ W₂.cell? ⟨E, 1, none⟩ = some (.int .i64 y.s) ∧ W₂.cell? ⟨E, 2, none⟩ = some (.bool y.d) ∧ W₂.cell? ⟨E, 3, none⟩ = some (.slice y.v.a vn y.v.c) := by
        refine ⟨?_, ?_, ?_, ?_⟩ <;> simp [World.cell?, e2]
      have cH : W₂.cell? ⟨H, 0, none⟩ = some (.slice k.a n k.c) := by
        have := k2.b0
        simp [World.cell?, this, Sl.val, HN.out]
      have HEQ := Lib.hid (equal_any y.k.a k.a y.k.l k.l yn n y.k.c k.c W₂ (hyn ▸ y2.1) (HN.out ▸ (HK.out.tw k2.tw HH.out.mapAt)))
      have hgd := goP_good (t := t.tb) (e := (keyE k s).rd) (x := y.rd) (j := 0) (by rw [hM]; rfl)
      have HCL := Lib.hid (eclone_any y W₂ y2 (by have := hgd.1.2; unfold En.rd at this; simp only at this; omega) (by have := hgd.2.2.1; unfold En.rd at this; simp only at this; omega))
      rw [En.val_eq, hyn, hvn] at HCL
      have HK2 := Lib.hid k2
      have HF2 := Lib.hid f2
      have HT2 := Lib.hid t2
      have HS2 := Lib.hid s2
      have HP : Hid (getP t.tb k.l s = firstP k.l (y.rd :: M, (goP t.tb (keyE k s).rd).2)) := Lib.hid (getP_of (Prod.ext hM rfl))
      have HZ2 := Lib.hid h2
      clear k2 f2 t2 s2 e2 hyn hvn hgd hE hF y2 hi hM hsz hEE h0 h2 hOI hOX
      by_cases hk : y.k.l = k.l
      · replace hz' := hz'.out
        rw [if_pos hk] at hz'
        have hkd : decide (y.k.l = k.l) = true := by simpa using hk
        rw [hkd] at HEQ
        have HGP : Hid (getP t.tb k.l s = (some y.rd, false)) := Lib.hid (by rw [HP.out]; exact if_pos hk)
        have HRES : Hid (∀ W3, Below W₂.heap.size W₂ W3 → ResG H zeroEn false 0 W3) := Lib.hid (fun W3 b3 => HK2.out.res.of (fun g o h1 h2 ho => obj_kept ho b3 (Nat.le_refl _)))
        have HZ1 := Lib.hid hz'
        clear hk hkd hz'
        gi_wp2_with (first
          | (refine ⟨trivial, ?_⟩; gi_at_call 45; refine (CallsIn.inRound _ (callsIn_wide.2 HEQ.out)).mono ?_; rintro e w' ⟨rfl, rfl⟩; clear HEQ)
          | (refine ⟨trivial, ?_⟩; gi_at_call 46; refine (CallsIn.inRound _ (callsIn_wide.2 HCL.out)).mono ?_; rintro e W3 ⟨y', hrd, rfl, r1, r2, b3⟩; have HRD := Lib.hid hrd; have R1 := Lib.hid r1; have R2 := Lib.hid r2; have B3 := Lib.hid b3; obtain ⟨⟨p0, p1, p2, p3, p4, p5⟩, f0, f1, f2', f3, f4, f5⟩ := res_cells (HRES.out W3 b3); rw [En.val_eq]; clear hrd r1 r2 b3 HCL c0 c1 c2 c3 cH))
        have hR3 := HRES.out W3 B3.out
        obtain ⟨s1, s2⟩ := setG_facts (e := .slice y'.k.a y'.k.l.length y'.k.c) (f := .int .i64 y'.s) (g := .bool y'.d) (h := .slice y'.v.a y'.v.l.length y'.v.c) (u := .bool true) (v := .int .i64 0) hR3.1 hR3.2.1 hR3.2.2
        obtain ⟨x1, x2⟩ := xg_end z'.1 HMT.out hH HK2.out HF2.out HT2.out HS2.out B3.out s2 (y := y') (b := true) (er := 0) s1 (.inl ⟨by rw [HGP.out, HRD.out], rfl, rfl⟩) R1.out R2.out (fun e => by rw [HZ1.out] at e; cases e)
        refine ⟨by rw [← HJ.out, HZ1.out]; rfl, x1, ?_⟩
        rw [← HZ2.out] at x2
        exact x2
      · replace hz' := hz'.out
        rw [if_neg hk] at hz'
        have hkd : decide (y.k.l = k.l) = false := by simpa using hk
        rw [hkd] at HEQ
        have HGP : Hid (getP t.tb k.l s = (none, false)) := Lib.hid (by rw [HP.out]; exact if_neg hk)
        have HZ1 := Lib.hid hz'
        clear hk hkd hz'
        gi_wp2_with (refine ⟨trivial, ?_⟩; gi_at_call 45; refine (CallsIn.inRound _ (callsIn_wide.2 HEQ.out)).mono ?_; rintro e w' ⟨rfl, rfl⟩; clear HEQ)
        obtain ⟨x1, x2⟩ := xg_end z'.1 HMT.out hH HK2.out HF2.out HT2.out HS2.out (Below.refl _ _) (Kp.refl _ _) (y := zeroEn) (b := false) (er := 0) HK2.out.res (.inr ⟨by rw [HGP.out], rfl, rfl, by rw [HGP.out]; rfl⟩) (Row.nil _ _) (Row.nil _ _) (fun _ => HGP.out)
        refine ⟨by rw [← HJ.out, HZ1.out]; rfl, x1, ?_⟩
        rw [← HZ2.out] at x2
        exact x2
    · gi_wp2
      refine ⟨Two.below ((Below.refl (H + 8) W).alloc hsz _) (by omega), fun W₂ g2 hl => ?_⟩
      obtain ⟨k2, f2, t2, s2, -⟩ := ig_round hH HMT.out hi hsz g2 hl
      clear g2 hl
      obtain ⟨⟨p0, p1, p2, p3, p4, p5⟩, f0, f1, f2', f3, f4, f5⟩ := res_cells k2.res
      obtain ⟨r1, r2⟩ := setG_facts (e := .slice none 0 0) (f := .int .i64 0) (g := .bool false) (h := .slice none 0 0) (u := .bool false) (v := .int .i64 11) k2.res.1 k2.res.2.1 k2.res.2.2
      have HX := Lib.hid (xg_end z'.1 HMT.out hH k2 f2 t2 s2 (Below.refl _ _) r2 (y := zeroEn) (b := false) (er := 11) r1 (.inr ⟨by rw [getP_of hM]; rfl, rfl, rfl, by rw [getP_of hM]; rfl⟩) (Row.nil _ _) (Row.nil _ _) (fun e => by omega))
      clear k2 f2 t2 s2 r1 r2 hi
      gi_wp2
      obtain ⟨x1, x2⟩ := HX.out
      refine ⟨by rw [← HJ.out, hz']; rfl, x1, ?_⟩
      rw [← h2] at x2
      exact x2
end Go.Proofs.YtmgggddnfeojmaaGreat
namespace Go.Proofs.YtmgggddnfeojmaaGreat
open Go.RowKit
theorem range_toldL {σ : Type} {P : Program} {g : Operand} {ps : Array Tmp} {assign body : Code} {Q : Exit → Act → World → Prop} {a : Act} {w : World} {n gf : Nat} {lb : Array Value}
    (hg : a.eval g = .func (.func gf) #[] lb) (eg : ∀ args w, (callFunc gf args).run P w = .ok (.enter gf args) w)
    (I Ix : σ → World → Prop) (J : σ → Code) (hI : OwnAt w.heap.size I) (hIx : OwnAt w.heap.size Ix)
    (On Off : σ → Array Value → σ → World → Prop) (s0 : σ) (h0 : I s0 w) (Done Left : σ → Prop)
    (hsz : ∀ s args s' W, On s args s' W ∨ Off s args s' W → args.size = ps.size)
    (hon : ∀ s args s' W, On s args s' W → I s W → w.heap.size + 2 ≤ W.heap.size → RoundOf w.heap.size (n - 1 - 1) P a.tmps ps assign body args W (fun W₂ => Goes w.heap.size W₂ (I s')))
    (hoff : ∀ s args s' W, Off s args s' W → I s W → w.heap.size + 2 ≤ W.heap.size → RoundOf w.heap.size (n - 1 - 1) P a.tmps ps assign body args W (fun W₂ => HaltsJ w.heap.size W₂ (J s') (Ix s')))
    (hiter : ∀ (R : World → Prop) (R' : σ → World → Prop), (∀ W W', R W → Two w.heap.size W W' → R W') → (∀ W, R W → w.heap.size + 2 ≤ W.heap.size ∧ (∃ L, W.heap[w.heap.size + 1]? = some (.loop L)) ∧ ∃ d, W.heap[w.heap.size]? = some (.deferred d)) →
      (∀ s args s' W, On s args s' W → I s W → R W → YieldAt Fence.wide (n - 1 - 1) P (w.heap.size + 1) args W fun e W' => e = .returned (.bool true) ∧ I s' W' ∧ R W') →
      (∀ s args s' W, Off s args s' W → I s W → R W → YieldAt Fence.wide (n - 1 - 1) P (w.heap.size + 1) args W fun e W' => e = .returned (.bool false) ∧ Ix s' W' ∧ R' s' W') →
      (∀ s W W', R' s W → Two w.heap.size W W' → R' s W') → (∀ s W, R' s W → w.heap.size + 2 ≤ W.heap.size ∧ (∃ L, W.heap[w.heap.size + 1]? = some (.loop L)) ∧ ∃ d, W.heap[w.heap.size]? = some (.deferred d)) →
      (∀ s s' W, J s = J s' → R' s W → R' s' W) →
      ∀ W, I s0 W → R W → CallsIn Fence.wide (n - 1) P gf (#[.func (.yield (w.heap.size + 1)) #[] #[]] ++ lb) W fun e W' => (∃ v, e = .returned v) ∧ ((∃ s, Done s ∧ I s W' ∧ R W') ∨ (∃ s, Left s ∧ Ix s W' ∧ R' s W')))
    (hdone : ∀ s W, Done s → I s W → W.heap[w.heap.size]? = some (.deferred (some [])) → Q .normal { a with defers := { target := .collected w.heap.size, args := #[] } :: a.defers } W)
    (hleft : ∀ s W, Left s → Ix s W → W.heap[w.heap.size]? = some (.deferred (some [])) → (J s).wpIn Fence.wide n P Q { a with defers := { target := .collected w.heap.size, args := #[] } :: a.defers } W) :
    (Code.rangeFunc g ps assign body).wpIn Fence.wide n P Q a w := by
  refine wpIn_rangeFunc fun fn _ => ?_
  obtain ⟨L, hL⟩ : ∃ L, recAt fn w.heap.size a.tmps ps assign body = L := ⟨_, rfl⟩
  obtain ⟨f2, f1⟩ := two_laid w (.deferred (some [])) (.loop (L .ready none))
  have fI : I s0 ((w.alloc (.deferred (some []))).alloc (.loop (L .ready none))) := hI.alloc _ (hI.alloc _ h0)
  generalize hW : (w.alloc (.deferred (some []))).alloc (.loop (L .ready none)) = W1 at f1 f2 fI
  have fE : (Instr.enterLoop fn a.tmps ps assign body none).run P w = .ok (w.heap.size + 1, [⟨.collected w.heap.size, #[]⟩]) W1 := by
    rw [← hW, ← hL]
    exact run_enterLoop_outer _ _ _ _ _
  refine ⟨_, _, _, _, _, _, _, _, fE, call_laid hg _ W1, fun _ _ => trivial, call_enters eg _ W1, fun h => by simp [Fence.wide] at h, ?_⟩
  have ended : ∀ (jump : Option Code) (W3 : World), W3.heap[w.heap.size + 1]? = some (.loop (L .busy none)) → (Instr.endRound (w.heap.size + 1) jump).run P W3 = .ok (.bool jump.isNone) (W3.putObj (w.heap.size + 1) (.loop (L (if jump.isNone then .ready else .done) jump))) := fun jump W3 k => by
    have := run_endRound (P := P) jump k
    rw [← hL] at this ⊢
    exact this
  have size2 : ∀ {W : World} {o : Obj}, W.heap[w.heap.size + 1]? = some o → w.heap.size + 2 ≤ W.heap.size := fun k => by
    have := (Array.getElem?_eq_some_iff.1 k).1
    omega
  refine (hiter (fun W => W.heap[w.heap.size + 1]? = some (.loop (L .ready none)) ∧ W.heap[w.heap.size]? = some (.deferred (some [])))
    (fun s W => W.heap[w.heap.size + 1]? = some (.loop (L .done (some (J s)))) ∧ W.heap[w.heap.size]? = some (.deferred (some [])))
    (fun W W' r t => ⟨t.2.trans r.1, t.1.trans r.2⟩) (fun W r => ⟨size2 r.1, ⟨_, r.1⟩, _, r.2⟩) ?_ ?_ (fun s W W' r t => ⟨t.2.trans r.1, t.1.trans r.2⟩) (fun s W r => ⟨size2 r.1, ⟨_, r.1⟩, _, r.2⟩) (fun s s' W e r => ⟨e ▸ r.1, r.2⟩) W1 fI ⟨f1, f2⟩).mono ?_
  · intro s args s' W ho hi r
    have hl := r.1
    rw [← hL] at hl
    refine yield_round hl (hsz s args s' W (.inl ho)) (hon s args s' W ho hi (size2 r.1)) fun W₂ e x W₃ q k1 k2 => ?_
    cases e with
    | normal =>
      obtain ⟨t, hi3⟩ := q
      have k3 := t.2.trans k1
      rw [hL] at k3
      refine ⟨_, _, ended none W₃ k3, rfl, hI.putObj _ hi3 (by omega) k3 rfl, World.putObj_heap_same (Array.getElem?_eq_some_iff.1 k3).1, ?_⟩
      rw [World.putObj_heap_other (by omega), t.1, k2, r.2]
    | ret => exact q.elim
    | exit id => exact q.elim
    | goto t => exact q.elim
    | panic ch => exact q.elim
    | outgrown => exact q.elim
  · intro s args s' W ho hi r
    have hl := r.1
    rw [← hL] at hl
    refine yield_round hl (hsz s args s' W (.inr ho)) (hoff s args s' W ho hi (size2 r.1)) fun W₂ e x W₃ q k1 k2 => ?_
    cases e with
    | ret =>
      obtain ⟨hj, t, hi3⟩ := q
      have k3 := t.2.trans k1
      rw [hL] at k3
      refine ⟨_, _, ended (some .ret) W₃ k3, rfl, hIx.putObj _ hi3 (by omega) k3 rfl, ?_, ?_⟩
      · rw [hj]
        exact World.putObj_heap_same (Array.getElem?_eq_some_iff.1 k3).1
      · rw [World.putObj_heap_other (by omega), t.1, k2, r.2]
    | exit id =>
      obtain ⟨hj, t, hi3⟩ := q
      have k3 := t.2.trans k1
      rw [hL] at k3
      refine ⟨_, _, ended (some (.exit id)) W₃ k3, rfl, hIx.putObj _ hi3 (by omega) k3 rfl, ?_, ?_⟩
      · rw [hj]
        exact World.putObj_heap_same (Array.getElem?_eq_some_iff.1 k3).1
      · rw [World.putObj_heap_other (by omega), t.1, k2, r.2]
    | normal => exact q.elim
    | goto t => exact q.elim
    | panic ch => exact q.elim
    | outgrown => exact q.elim
  · rintro e W2 ⟨⟨v, rfl⟩, (⟨s, hd, hi, k1, k2⟩ | ⟨s, hd, hi, k1, k2⟩)⟩
    · have h := run_endLoop (P := P) k1 (by rw [← hL]; simp [recAt])
      have e : (L .ready none).pending = none := by rw [← hL]; rfl
      rw [e] at h
      exact ⟨none, _, h, hdone s _ hd (hI.putObj _ hi (by omega) k1 rfl) ((World.putObj_heap_other (by omega)).trans k2)⟩
    · have h := run_endLoop (P := P) k1 (by rw [← hL]; simp [recAt])
      have e : (L .done (some (J s))).pending = some (J s) := by rw [← hL]; rfl
      rw [e] at h
      exact ⟨some (J s), _, h, hleft s _ hd (hIx.putObj _ hi (by omega) k1 rfl) ((World.putObj_heap_other (by omega)).trans k2)⟩
/-- A loop's state: how many have been told, the world that stands for those that stay. -/
def IA (H L mb : Nat) (w3 : World) (M : List Er) (s : Nat × World) (W : World) : Prop := KA H L mb w3 M s.1 W ∧ Fr (OutCl H L) s.2 W
def XL (H L mb : Nat) (w3 : World) (M : List Er) (s : Nat × World) (W : World) : Prop := XA H L mb w3 M s.1 W ∧ Fr (OutCl H L) s.2 W
/-- A round that goes on; one that leaves. -/
def OnA (L : Nat) (M : List Er) (s : Nat × World) (args : Array Value) (s' : Nat × World) (W : World) : Prop := s' = (s.1 + 1, s.2) ∧ L + 2 ≤ s.2.heap.size ∧ Below s.2.heap.size s.2 W ∧ ∃ y : En, args = #[y.val, .int .i64 0] ∧ M[s.1]? = some y.rd ∧ Row W s.2.heap.size y.k.a y.k.c y.k.l ∧ Row W s.2.heap.size y.v.a y.v.c y.v.l
def OffA (M : List Er) (s : Nat × World) (args : Array Value) (s' : Nat × World) (W : World) : Prop := s' = s ∧ s.2 = W ∧ args = #[.agg #[.slice none 0 0, .int .i64 0, .bool false, .slice none 0 0], .int .i64 11] ∧ M.length = s.1
section
variable {H L : Nat} {t : Tm} {w3 : World} {M : List Er} {lo hi : Sl}
theorem KA.no_mb {j mb : Nat} {W : World} (h : KA H L mb w3 M j W) (hH : H + 3 ≤ L) (hm : mb < H) : ¬ OutCl H L W mb := by
  obtain ⟨l, A, c, ho, -⟩ := h.out
  rw [ho.cl]
  have := ho.low
  rintro (k | k | k | k | k)
  · omega
  · omega
  · omega
  · have := (this.1 _ k).1; omega
  · have := (this.2 _ k).1; omega
theorem OwnAt.ia (hH : H + 3 ≤ L) (hm : t.mb < H) (hz : L ≤ w3.heap.size) : OwnAt L (IA H L t.mb w3 M) := fun s W W' row ⟨h1, h2⟩ hg hr => by
  obtain ⟨k1, k2⟩ := h1.grow (by have := h1.kp.size; omega) hH hm hg (fun r e => ⟨by have := (hr r e).1; omega, (hr r e).2⟩)
  exact ⟨k1, fr_own h2 hg (fun r e => (hr r e).1) k2⟩
theorem XA.no_mb {j mb : Nat} {W : World} (h : XA H L mb w3 M j W) (hH : H + 3 ≤ L) (hm : mb < H) : ¬ OutCl H L W mb := by
  obtain ⟨l, A, c, ho, -⟩ := h.out
  rw [ho.cl]
  have := ho.low
  rintro (k | k | k | k | k)
  · omega
  · omega
  · omega
  · have := (this.1 _ k).1; omega
  · have := (this.2 _ k).1; omega
theorem fr_row {W W' : World} {row : Option Nat} (hg : W.grownBy W' row) (hr : ∀ r, row = some r → r = L ∨ r = L + 1) (hc : ∀ g, OutCl H L W' g → OutCl H L W g) : Fr (OutCl H L) W W' := fr_own (Fr.refl _ _) hg hr hc
theorem OwnAt.xl (hH : H + 3 ≤ L) (hm : t.mb < H) (hz : L ≤ w3.heap.size) : OwnAt L (XL H L t.mb w3 M) := fun s W W' row ⟨h1, h2⟩ hg hr => by
  obtain ⟨k1, k2⟩ := h1.grow (by have := h1.kp.size; omega) hH hm hg (fun r e => ⟨by have := (hr r e).1; omega, (hr r e).2⟩)
  have hr' : ∀ r, row = some r → r = L ∨ r = L + 1 := fun r e => (hr r e).1
  exact ⟨k1, fr_own h2 hg hr' k2⟩
/-- The law, as the one who goes. -/
theorem all_goer {N : Nat} (hHL : H + 6 ≤ L) (hz : w3.heap.size = L) (hm : t.mb < H) (hmm : MapAt w3 t.mb) (hMt : (rangeP t.tb lo.l hi.l).1 = M)
    (b3 : w3.heap[H + 3]? = some (.cells #[.pointer (some ⟨t.b, 0, none⟩)] 37 (0, 0))) (b4 : w3.heap[H + 4]? = some (.cells #[lo.val] 42 (0, 0))) (b5 : w3.heap[H + 5]? = some (.cells #[hi.val] 42 (0, 0)))
    (rl : Row w3 (H + 3) lo.a lo.c lo.l) (rh : Row w3 (H + 3) hi.a hi.c hi.l) (yl : Byt lo.l) (yh : Byt hi.l)
    (R : World → Prop) (R' : Nat × World → World → Prop)
    (hR : ∀ W W', R W → Two L W W' → R W') (hRs : ∀ W, R W → L + 2 ≤ W.heap.size ∧ (∃ X, W.heap[L + 1]? = some (.loop X)) ∧ ∃ d, W.heap[L]? = some (.deferred d))
    (hR' : ∀ s W W', R' s W → Two L W W' → R' s W') (hRs' : ∀ s W, R' s W → L + 2 ≤ W.heap.size ∧ (∃ X, W.heap[L + 1]? = some (.loop X)) ∧ ∃ d, W.heap[L]? = some (.deferred d))
    (hyes : ∀ s args s' W, OnA L M s args s' W → IA H L t.mb w3 M s W → R W → YieldAt Fence.wide N Tryz.prog (L + 1) args W fun e W' => e = .returned (.bool true) ∧ IA H L t.mb w3 M s' W' ∧ R W')
    (hno : ∀ s args s' W, OffA M s args s' W → IA H L t.mb w3 M s W → R W → YieldAt Fence.wide N Tryz.prog (L + 1) args W fun e W' => e = .returned (.bool false) ∧ XL H L t.mb w3 M s' W' ∧ R' s' W') :
    Goer t lo hi (H + 3) (H + 4) (H + 5) (L + 2) N (L + 1) (fun _ => false) (fun j W => KA H L t.mb w3 M j W ∧ R W) (fun j W => XA H L t.mb w3 M j W ∧ ∃ s, R' s W) (OutCl H L) where
  box := fun j W ⟨h, _⟩ => by
    have e3 := (h.kp.block (H + 3) ⟨by omega, by omega, by omega⟩).trans b3
    have e4 := (h.kp.block (H + 4) ⟨by omega, by omega, by omega⟩).trans b4
    have e5 := (h.kp.block (H + 5) ⟨by omega, by omega, by omega⟩).trans b5
    have hk : ∀ {A : Option Addr} {c : Nat} {X : List Int}, Row w3 (H + 3) A c X → Row W (H + 3) A c X := fun r => own_kp r h.kp (fun ad ha => by have := own_in r ad ha; exact ⟨by omega, by omega, by omega⟩)
    exact ⟨by simp [World.cell?, e3], ⟨by simp [World.cell?, e4], (hk rl).in_ yl⟩, by simp [World.cell?, e5], (hk rh).in_ yh⟩
  own := fun j W ⟨h, r⟩ => by
    have hs := (hRs W r).1
    refine ⟨fun g q => ?_, h.no_mb (by omega) hm, ?_⟩
    · obtain ⟨l, A, c, ho, -⟩ := h.out
      rcases (ho.cl g).1 q with k | k | k | k | k
      · omega
      · omega
      · omega
      · exact (ho.low.1 _ k).2
      · exact (ho.low.2 _ k).2
    · obtain ⟨l, A, c, ho, -⟩ := h.out
      rw [ho.cl]
      have := ho.low
      rintro (k | k | k | k | k)
      · omega
      · omega
      · omega
      · have := (this.1 _ k).1; omega
      · have := (this.2 _ k).1; omega
  stay := fun j W W' ⟨h, r⟩ hm' ht => by
    obtain ⟨h1, h2⟩ := h.tw (by have := h.kp.size; omega) (by omega) hm ht
    obtain ⟨-, ⟨X, e1⟩, d, e2⟩ := hRs W r
    exact ⟨⟨h1, hR W W' r ⟨(ht.obj e2 (by omega)).trans e2.symm, (ht.obj e1 (by omega)).trans e1.symm⟩⟩, h2⟩
  grow := fun j W W' row ⟨h, r⟩ hg hr => by
    obtain ⟨h1, h2⟩ := h.grow (by have := h.kp.size; omega) (by omega) hm hg (fun x e => ⟨by have := (hr x e).1; omega, (hr x e).2⟩)
    obtain ⟨-, ⟨X, e1⟩, d, e2⟩ := hRs W r
    exact ⟨⟨h1, hR W W' r ⟨(grown_obj e2 hg (fun e => by have := (hr _ e.symm).1; omega)).trans e2.symm, (grown_obj e1 hg (fun e => by have := (hr _ e.symm).1; omega)).trans e1.symm⟩⟩, h2⟩
  growx := fun j W W' row ⟨h, s, r⟩ hg hr => by
    obtain ⟨h1, h2⟩ := h.grow (by have := h.kp.size; omega) (by omega) hm hg (fun x e => ⟨by have := (hr x e).1; omega, (hr x e).2⟩)
    obtain ⟨-, ⟨X, e1⟩, d, e2⟩ := hRs' _ W r
    exact ⟨⟨h1, s, hR' _ W W' r ⟨(grown_obj e2 hg (fun e => by have := (hr _ e.symm).1; omega)).trans e2.symm, (grown_obj e1 hg (fun e => by have := (hr _ e.symm).1; omega)).trans e1.symm⟩⟩, h2⟩
  yes := fun j W0 W y hM hst ⟨k0, r0⟩ hb ⟨k, r⟩ r1 r2 hF => by
    obtain ⟨k1, k2⟩ := k0.tw (by have := k0.kp.size; omega) (by omega) hm (Tw.of_below hb)
    refine (hyes (j, W0) _ (j + 1, W0) W ⟨rfl, (hRs W0 r0).1, hb, y, rfl, by rw [← hMt]; exact hM, r1, r2⟩ ⟨k, Fr.below hb k2⟩ r).mono ?_
    rintro e W' ⟨rfl, ⟨q1, q2⟩, q3⟩
    exact ⟨rfl, ⟨q1, q3⟩, q2⟩
  no := fun j W0 W y hM hst => by cases hst
  bad := fun W hb ⟨k, r⟩ hT => by
    refine (hno (_, W) _ (_, W) W ⟨rfl, rfl, rfl, by rw [← hMt]⟩ ⟨k, Fr.refl _ _⟩ r).mono ?_
    rintro e W' ⟨rfl, ⟨q1, q2⟩, q3⟩
    exact ⟨rfl, ⟨q1, _, q3⟩, q2⟩
end
end Go.Proofs.YtmgggddnfeojmaaGreat
