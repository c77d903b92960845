/-
  Walks: the program's disk: Append.
-/
import Derived.Test.YtjacjafpeajhaaaPgN
namespace Go.Proofs.Ytjacjafpeajhaaa
open Go.RowKit
open Go.Maps

theorem Bys.does {S S' : Nat → Prop} {w w' : World} {A : Option Addr} {L : List Int} (h : Bys w A L) (hd : Does S S' w w') (hS : ∀ ad, A = some ad → ¬ S ad.block) : Bys w' A L := by
  rcases h with h | ⟨ad, rfl, h2⟩
  · exact .inl h
  · refine .inr ⟨ad, rfl, fun j x hx => ?_⟩
    have hc := h2 j x hx
    have hl := World.block_lt_of_cell? w _ hc
    rw [World.cell?_of_block (w := w) (hd.block _ hl (by rw [add_block]; exact hS ad rfl))]
    exact hc

set_option maxRecDepth 100000 in
set_option maxHeartbeats 8000000 in
theorem append_any (B g : Nat) (p : Pk) (s : ByteArray) (bA : Option Addr) (b : List Int) (m bc : Nat) (w : World) (h : PSt w B g p) (hs : s.size ≤ 140737488355328) (hbl : b.length = m) (hbb : Byt b) (hby : Bys w bA b) (hbo : ∀ ad, bA = some ad → ¬ p.own g ad.block ∧ ad.block < w.heap.size)
    (hsum : sumP p.l + m ≤ 4611686018427387904) (hlg : ∀ q ∈ p.l, q.d.l.length + m ≤ 140737488355328) (hm : m ≤ 140737488355328) (hl : p.l.length < maxLen) :
    Calls Try.prog 19 #[.pointer (some ⟨g, 0, none⟩), .string s, .slice bA m bc] w fun e w' => e = .returned (.int .i64 (p.vm.append s b).2) ∧ Rest w B g p (p.vm.append s b).1 w' := by
  have H := Lib.hid h
  have HO := Lib.hid (And.intro hbl (And.intro hbb (And.intro hby hbo)))
  have HS := Lib.hid (And.intro hsum (And.intro hlg hl))
  obtain ⟨M, hM⟩ : ∃ M, p.vm.append s b = M := ⟨_, rfl⟩
  rw [hM]
  have HM := Lib.hid hM
  obtain ⟨w1, hw1⟩ : ∃ w1, w.alloc (.cells #[.string s] 9) = w1 := ⟨_, rfl⟩
  have B1 : Hid (Below w.heap.size w w1) := Lib.hid (hw1 ▸ below_new _ _)
  have H1 := Lib.hid (H.out.kept B1.out)
  have HR := Lib.hid (ready_any g p (some ⟨w.heap.size, 0, none⟩) [s] 1 1 w1 H1.out.at_ rfl (by rw [← hw1]; exact lit_lies w [.string s] _ rfl _) (by omega) (fun t ht => by rw [List.mem_singleton] at ht; subst ht; omega))
  obtain ⟨r, hr⟩ : ∃ r, readyE p.down [s] = r := ⟨_, rfl⟩
  rw [hr] at HR
  have HRR := Lib.hid hr
  clear h hbl hbb hby hbo hsum hlg hl hM hr
  by_cases h9 : r = 0
  · subst h9
    obtain ⟨z, hz⟩ : ∃ z, (sumP p.l) = z := ⟨_, rfl⟩
    have hz0 : 0 ≤ z := by rw [← hz]; unfold sumP; omega
    have hz1 : z + m ≤ 4611686018427387904 := by rw [← hz]; exact HS.out.1
    have hsz : p.size = z := by
      rw [H.out.size, hz]
      unfold wrap64
      omega
    obtain ⟨-, c1, c2, -⟩ := H1.out.at_.cell
    rw [hsz] at c1
    have HROOM := Lib.hid H.out.room
    obtain ⟨room, hroom⟩ : ∃ room, p.room = room := ⟨_, rfl⟩
    rw [hroom] at c2 HROOM
    have HM1 : Hid (M = if 0 ≤ room ∧ room < z + m then (p.vm, 21) else if p.vm.step.2 ≠ 0 then p.vm.step else ({ p.vm.step.1 with fs := appM s b (if findM s (p.l.map Pf.rd) = none then insM (s, [], 0) (p.l.map Pf.rd) else p.l.map Pf.rd) }, 0)) := Lib.hid (by
      rw [← HM.out]
      unfold Vm.append
      rw [show readyE p.vm.down [s] = 0 from HRR.out, if_neg (by simp)]
      have e : ((b.length + sumM p.vm.fs : Nat) : Int) = z + m := by
        rw [← hz, HO.out.1]
        unfold sumP
        show ((m + sumM (p.l.map Pf.rd) : Nat) : Int) = _
        omega
      rw [e, show p.vm.room = room from hroom]
      rfl)
    have HRO := Lib.hid hroom
    have HSZ := Lib.hid (And.intro hz hsz)
    clear hz hsz hroom HM
    go_enter Try.func19, Try.ntmps19
    go_upto_region 4 with (go_at_call 47; refine HR.out.mono ?_; rintro e w2 ⟨rfl, hw⟩; subst hw)
    obtain ⟨hr0, hr1⟩ := HROOM.out
    obtain ⟨fv, hfv⟩ : ∃ fv, decide (0 ≤ room ∧ room < z + m) = fv := ⟨_, rfl⟩
    have HFV := Lib.hid hfv
    clear hfv
    go_cut [35] from 17 to 35 (fun t35 wx => t35 = .bool fv ∧ Hid (Below w1.heap.size w1 wx))
    case first =>
      by_cases hf0 : 0 ≤ room
      · have e0 : decide (0 ≤ room) = true := by simpa using hf0
        by_cases hf1 : room - z < m
        · have e1 : decide (room - z < (m : Int)) = true := by simpa using hf1
          go_quiet (fail)
          go_wp2_with fail
          go_meet
          exact ⟨by rw [← HFV.out]; simp; omega, Lib.hid (below_drewN (Below.refl _ _) _)⟩
        · have e1 : decide (room - z < (m : Int)) = false := by simpa using hf1
          go_quiet (fail)
          go_wp2_with fail
          go_meet
          exact ⟨by rw [← HFV.out]; simp; omega, Lib.hid (below_drewN (Below.refl _ _) _)⟩
      · have e0 : decide (0 ≤ room) = false := by simpa using hf0
        go_quiet (fail)
        go_wp2_with fail
        go_meet
        exact ⟨by rw [← HFV.out]; simp; omega, Lib.hid (below_drewN (Below.refl _ _) _)⟩
    case rest =>
      obtain ⟨rfl, hbc⟩ := hcut
      have BC : Hid (Below w.heap.size w wc) := Lib.hid (B1.out.trans (hbc.out.mono B1.out.size))
      have HC := Lib.hid (H.out.kept BC.out)
      clear c1 c2 hr0 hr1
      by_cases hfull : 0 ≤ room ∧ room < z + m
      · have hfv : fv = true := by rw [← HFV.out]; exact decide_eq_true hfull
        subst hfv
        have HV : Hid (M = (p.vm, 21)) := Lib.hid (by rw [HM1.out, if_pos hfull])
        clear hfull
        go_wp2_with fail
        go_ret
        rw [HV.out]
        exact ⟨rfl, p, HC.out, rfl, Does.of_below BC.out (fun _ hk => .inl hk)⟩
      · have hfv : fv = false := by rw [← HFV.out]; exact decide_eq_false hfull
        subst hfv
        have HM2 : Hid (M = if p.vm.step.2 ≠ 0 then p.vm.step else ({ p.vm.step.1 with fs := appM s b (if findM s (p.l.map Pf.rd) = none then insM (s, [], 0) (p.l.map Pf.rd) else p.l.map Pf.rd) }, 0)) := Lib.hid (by rw [HM1.out, if_neg hfull])
        clear hfull HM1
        have HST := Lib.hid (step_any g p wc HC.out.at_ HC.out.left)
        obtain ⟨t1, t2, t3, t4, t5, t6, t7, t8, t9⟩ := step_vm p
        have HE := Lib.hid (fun (W : World) (hk : PkAt W g (stepP p).1) (hb : BelowX wc.heap.size g wc W) => HC.out.step hk hb)
        obtain ⟨y1, hy1⟩ : ∃ y1, (stepP p).1 = y1 := ⟨_, rfl⟩
        obtain ⟨y2, hy2⟩ : ∃ y2, (stepP p).2 = y2 := ⟨_, rfl⟩
        rw [hy1] at t1 t3 t4 t5 t6 t7 t8 t9 HST HE
        rw [hy2] at t2 HST
        by_cases h8 : y2 = 0
        · subst h8
          have HM3 : Hid (M = ({ y1.vm with fs := appM s b (if findM s (y1.l.map Pf.rd) = none then insM (s, [], 0) (y1.l.map Pf.rd) else y1.l.map Pf.rd) }, 0)) := Lib.hid (by rw [HM2.out, if_neg (by rw [← t2]; simp), ← t1, t3])
          have HY := Lib.hid (And.intro t3 (And.intro t4 (And.intro t5 (And.intro t8 t9))))
          have HYO : Hid (∀ k, y1.own g k → p.own g k) := Lib.hid (fun k hk => by
            unfold Pk.own Pk.inner at hk ⊢
            rw [t3, t4, t5] at hk
            exact hk)
          have HSZ1 : Hid (y1.size = z) := Lib.hid (by rw [t8]; exact HSZ.out.2)
          clear t1 t2 t3 t4 t5 t6 t7 t8 t9 hy1 hy2 HM2
          obtain ⟨o, ho⟩ : ∃ o, findP s y1.l = o := ⟨_, rfl⟩
          cases o with
          | some q =>
            obtain ⟨i, hi, hq⟩ := findM_P ho
            have HQ := Lib.hid (And.intro ho (And.intro hi (And.intro hq (findP_mem ho).1)))
            have HV : Hid (∀ A' c', M = ({ y1.vm with fs := (y1.l.set i { q with d := ⟨A', c', q.d.l ++ b⟩ }).map Pf.rd }, 0)) := Lib.hid (fun A' c' => by rw [HM3.out, hi, if_neg (by simp), appM_P hi hq])
            have HLQ : Hid (q.d.l.length + m ≤ 140737488355328) := Lib.hid (HS.out.2.1 q (by rw [← HY.out.1]; exact (findP_mem ho).1))
            have HAP := Lib.hid (fun (W w5 : World) (A' : Option Addr) (c' : Nat) (hP : PSt W B g y1) (hr : Row w5 B A' c' (q.d.l ++ b)) (hg : W.grownBy w5 (q.d.a.map (fun ad => ad.block))) (hloc : ∀ ad', A' = some ad' → (∃ ad, q.d.a = some ad ∧ ad'.block = ad.block) ∨ W.heap.size ≤ ad'.block) => hP.appended hq hr hg hloc HO.out.2.1)
            have HMID := Lib.hid (fun (W w5 : World) (hP : PSt W B g y1) (hg : W.grownBy w5 (q.d.a.map (fun ad => ad.block))) => hP.app_mid (findP_mem ho).1 hg)
            have HLK := Lib.hid (fun (W : World) (hP : PSt W B g y1) => look_run hP.inn.map s (by unfold maxLen; omega))
            rw [ho] at HLK
            unfold ptrOf Pf.at_ at HLK
            have HFI := Lib.hid (fun (W : World) (hP : PSt W B g y1) => hP.inn.file q (findP_mem ho).1)
            obtain ⟨qs, qh, ⟨qa, qc, ql⟩, qy⟩ := q
            simp only at HLK HFI HAP HMID HLQ HV
            obtain ⟨n, hn⟩ : ∃ n, ql.length = n := ⟨_, rfl⟩
            have HNN := Lib.hid hn
            clear ho hi hq hn HM3
            go_upto_region 13 with (go_at_call 48; refine HST.out.mono ?_; rintro e w3 ⟨rfl, hk, hb⟩; have E3 := Lib.hid (HE.out w3 hk hb); have hlk := HLK.out w3 E3.out.1; have k0 := E3.out.1.at_.cell.1; clear hk hb)
            obtain ⟨a0, -⟩ := (HFI.out w3 E3.out.1).at_.cell
            unfold Sl.val at a0
            simp only at a0
            rw [HNN.out] at a0
            have BY3 : Hid (Bys w3 bA b) := Lib.hid (((HO.out.2.2.1).does ((Does.of_below (S := p.own g) (S' := p.own g) BC.out (fun _ hk => .inl hk)).trans E3.out.2) (fun ad ha => (HO.out.2.2.2 ad ha).1)))
            have LOW : Hid (B ≤ w3.heap.size) := Lib.hid (by have := E3.out.1.low; have := E3.out.1.at_.lt; omega)
            go_wp2_with (at_builtin; refine wpList_append_row_at _ rfl (.tmp 59) (.tmp 60) rfl B qa qc ql b bA n m bc rfl rfl HNN.out HO.out.1 (HFI.out w3 E3.out.1).row BY3.out LOW.out (by have := HLQ.out; have := HO.out.1; omega) ?_; intro A5 c5 w5 r5 g5 l5; have R5 := Lib.hid (And.intro r5 (And.intro g5 l5)); obtain ⟨m1, m2⟩ := HMID.out w3 w5 E3.out.1 g5; obtain ⟨v0, -⟩ := m1.cell; have v1 := m1.frozen 0; obtain ⟨-, v2, -⟩ := m2.cell; have v3 := m2.frozen 1; rw [HSZ1.out] at v2; clear r5 g5 l5 m1 m2)
            go_ret
            obtain ⟨r5, g5, l5⟩ := R5.out
            obtain ⟨f1, f2⟩ := HAP.out w3 w5 A5 c5 E3.out.1 r5 g5 l5
            rw [HV.out A5 c5]
            have e1 : (ql ++ b).length = n + m := by rw [List.length_append, HNN.out, HO.out.1]
            have e2 : wrap64 (y1.size + b.length) = z + m := by
              rw [HSZ1.out, HO.out.1]
              unfold wrap64
              omega
            rw [e1, e2] at f1 f2
            exact ⟨rfl, _, f1, rfl, (Does.of_below BC.out (fun _ hk => .inl hk)).trans (E3.out.2.trans f2)⟩
          | none =>
            have HNO := Lib.hid ho
            have HLK := Lib.hid (fun (W : World) (hP : PSt W B g y1) => look_run hP.inn.map s (by unfold maxLen; omega))
            rw [ho] at HLK
            unfold ptrOf at HLK
            have HOK : Hid (∀ W, PSt W B g y1 → FileOk (W.alloc (.cells #[.slice none 0 0, .int .i64 0] 80)) B ⟨s, W.heap.size, ⟨none, 0, []⟩, 0⟩) := Lib.hid (fun W hP => ⟨file_made W none 0 0 [] 0 rfl, by have := hP.low; have := hP.at_.lt; show B ≤ W.heap.size; omega, Row.nil _ _, Byt.nil⟩)
            have HAPT : Hid (∀ W, PSt W B g y1 → ∀ x ∈ y1.l, x.s ≠ s ∧ Apart ⟨s, W.heap.size, ⟨none, 0, []⟩, 0⟩ x) := Lib.hid (fun W hP x hx => ⟨findP_none HNO.out x hx, by
              refine ⟨?_, fun ad ad' h1 => by cases h1⟩
              have := (hP.inn.file x hx).at_.lt
              show W.heap.size ≠ x.h
              omega⟩)
            have HPU := Lib.hid (fun (W : World) (hP : PSt W B g y1) => put_any B g y1 ⟨s, W.heap.size, ⟨none, 0, []⟩, 0⟩ (W.alloc (.cells #[.slice none 0 0, .int .i64 0] 80)) (hP.kept (below_new _ _)) (HOK.out W hP) (HAPT.out W hP) (by have := HS.out.2.2; rw [← HY.out.1] at this; exact this) (by show s.size ≤ _; omega) (by show s.size ≤ _; unfold maxLen; omega))
            simp only at HPU
            clear ho
            go_upto_region 13 with (first
              | (go_at_call 48; refine HST.out.mono ?_; rintro e w3 ⟨rfl, hk, hb⟩; have E3 := Lib.hid (HE.out w3 hk hb); have hlk := HLK.out w3 E3.out.1; have k0 := E3.out.1.at_.cell.1; clear hk hb)
              | (go_at_call 33; refine (HPU.out w3 E3.out.1).mono ?_; rintro e w4 ⟨rfl, h4, d4⟩; have E4 := Lib.hid (And.intro h4 d4); clear h4 d4))
            obtain ⟨q2, hq2⟩ : ∃ q2 : Pf, (⟨s, w3.heap.size, ⟨none, 0, []⟩, 0⟩ : Pf) = q2 := ⟨_, rfl⟩
            have HQ2 := Lib.hid hq2
            have hmem : q2 ∈ (putP y1 q2).l := mem_insP.2 (.inl rfl)
            have hfp : findP s (putP y1 q2).l = some q2 := by
              have := findP_of (q := q2) (l := (putP y1 q2).l) (by
                have := E4.out.1.inn.srt
                rw [hq2] at this
                exact this) hmem
              rw [← hq2] at this ⊢
              exact this
            obtain ⟨i, hi, hq⟩ := findM_P hfp
            rw [hq2] at E4
            have HV : Hid (∀ A' c', M = ({ y1.vm with fs := ((putP y1 q2).l.set i { q2 with d := ⟨A', c', q2.d.l ++ b⟩ }).map Pf.rd }, 0)) := Lib.hid (fun A' c' => by
              rw [HM3.out, findM_none HNO.out, if_pos rfl]
              have e : insM (s, [], 0) (y1.l.map Pf.rd) = (putP y1 q2).l.map Pf.rd := by
                show _ = (insP q2 y1.l).map Pf.rd
                rw [insP_rd, ← hq2]
                rfl
              rw [e, appM_P hi hq])
            have HQ := Lib.hid (And.intro hq hmem)
            have hz4 : (putP y1 q2).size = z := by
              show wrap64 (y1.size + q2.d.l.length) = z
              rw [HSZ1.out, ← hq2]
              simp only [List.length_nil]
              unfold wrap64
              omega
            have HZ4 := Lib.hid hz4
            have BY4 : Hid (Bys w4 bA b) := Lib.hid (by
              have hd0 := ((Does.of_below (S := p.own g) (S' := p.own g) BC.out (fun _ hk => .inl hk)).trans E3.out.2)
              have h3 : Bys w3 bA b := (HO.out.2.2.1).does hd0 (fun ad ha => (HO.out.2.2.2 ad ha).1)
              refine (h3.alloc _).does E4.out.2 (fun ad ha hk => (HO.out.2.2.2 ad ha).1 ?_)
              rcases hk with e | e
              · exact .inl e
              · exact .inr (.inl (by rw [← HY.out.2.1]; exact e)))
            have LOW : Hid (B ≤ w4.heap.size) := Lib.hid (by have := E4.out.1.low; have := E4.out.1.at_.lt; omega)
            have a0 := (E4.out.1.inn.file q2 hmem).at_.cell.1
            have RW := Lib.hid (E4.out.1.inn.file q2 hmem).row
            rw [← hq2] at a0 RW
            unfold Sl.val at a0
            simp only [List.length_nil] at a0 RW
            clear hfp hi hq hz4 hmem hlk k0 hq2
            go_wp2_with (at_builtin; refine wpList_append_row_at _ rfl (.tmp 59) (.tmp 60) rfl B none 0 [] b bA 0 m bc rfl rfl rfl HO.out.1 RW.out BY4.out LOW.out (by have := HO.out.1; simp only [List.length_nil]; omega) ?_; intro A5 c5 w5 r5 g5 l5; have R5 := Lib.hid (And.intro r5 (And.intro g5 l5)); obtain ⟨m1, m2⟩ := E4.out.1.app_mid HQ.out.2 (by rw [← HQ2.out]; exact g5); obtain ⟨v0, -⟩ := m1.cell; have v1 := m1.frozen 0; obtain ⟨-, v2, -⟩ := m2.cell; have v3 := m2.frozen 1; rw [HZ4.out] at v2; rw [← HQ2.out] at v0 v1; unfold Sl.val at v0; simp only [List.length_nil] at v0 v1; clear r5 g5 l5 m1 m2)
            go_ret
            obtain ⟨r5, g5, l5⟩ := R5.out
            have hq2 := HQ2.out
            obtain ⟨f1, f2⟩ := E4.out.1.appended (A' := A5) (c' := c5) HQ.out.1 (by rw [← hq2]; exact r5) (by rw [← hq2]; exact g5) (by rw [← hq2]; exact l5) HO.out.2.1
            rw [HV.out A5 c5]
            have e1 : (q2.d.l ++ b).length = m := by rw [← hq2, List.nil_append, HO.out.1]
            have e2 : wrap64 ((putP y1 q2).size + b.length) = z + m := by
              rw [HZ4.out, HO.out.1]
              unfold wrap64
              omega
            have e3 : q2.h = w3.heap.size := by rw [← hq2]
            rw [e1, e2, e3] at f1 f2
            have hd3 : Does (y1.own g) (fun k => y1.own g k ∨ k = w3.heap.size) w3 (w3.alloc (.cells #[.slice none 0 0, .int .i64 0] 80)) := Does.of_below (below_new _ _) (fun k hk => hk.imp id (fun e => by omega))
            have hd4 : Does (fun k => y1.own g k ∨ k = w3.heap.size) ((putP y1 q2).own g) (w3.alloc (.cells #[.slice none 0 0, .int .i64 0] 80)) w4 := E4.out.2.wider (fun k hk => hk.elim (fun e => .inl (.inl e)) (fun e => .inl (.inr (.inl e)))) (fun k hk => by
              rcases hk with e | e | e | ⟨x, hx, hk⟩
              · exact .inl (.inl (.inl e))
              · exact .inl (.inl (.inr (.inl e)))
              · exact .inl (.inl (.inr (.inr (.inl e))))
              · rcases mem_insP.1 hx with ex | ex
                · rw [ex, ← hq2] at hk
                  rcases hk with e | ⟨ad, ha, e⟩
                  · exact .inl (.inr e)
                  · cases ha
                · exact .inl (.inl (.inr (.inr (.inr ⟨x, ex, hk⟩)))))
            exact ⟨rfl, _, f1, by rw [← e3]; rfl, ((((Does.of_below BC.out (fun _ hk => .inl hk)).trans E3.out.2).trans hd3).trans hd4).trans f2⟩
        · have HV : Hid (M = (y1.vm, y2)) := Lib.hid (by rw [HM2.out, if_pos (by rw [← t2]; exact h8), t1, t2])
          have d8 : (y2 != 0) = true := by simpa using h8
          clear h8 t1 t2 t3 t4 t5 t6 t7 t8 t9 hy1 hy2
          go_wp2_with (go_at_call 48; refine HST.out.mono ?_; rintro e w3 ⟨rfl, hk, hb⟩; have E3 := Lib.hid (HE.out w3 hk hb); clear hk hb)
          go_ret
          rw [HV.out]
          exact ⟨rfl, y1, E3.out.1, rfl, (Does.of_below BC.out (fun _ hk => .inl hk)).trans E3.out.2⟩
  · have HV : Hid (M = (p.vm, r)) := Lib.hid (by
      rw [← HM.out]
      unfold Vm.append
      rw [show readyE p.vm.down [s] = r from HRR.out, if_pos h9])
    have d0 : (r != 0) = true := by simpa using h9
    clear h9
    go_enter Try.func19, Try.ntmps19
    go_wp2_with (go_at_call 47; refine HR.out.mono ?_; rintro e w2 ⟨rfl, hw⟩; subst hw)
    go_ret
    rw [HV.out]
    exact ⟨rfl, p, H1.out, rfl, Does.of_below B1.out (fun _ hk => .inl hk)⟩

end Go.Proofs.Ytjacjafpeajhaaa
