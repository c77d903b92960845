/-
  Walks: the program's disk: Read, List, Sync, Delete.
-/
import Derived.Test.YtjacjafpeajhaaaPgK
namespace Go.Proofs.Ytjacjafpeajhaaa
open Go.RowKit
open Go.Maps

theorem dataM_at {s : ByteArray} {l : List Pf} {q : Pf} (h : findP s l = some q) : dataM s (l.map Pf.rd) = q.d.l := by
  obtain ⟨i, h1, h2⟩ := findM_P h
  unfold dataM
  rw [h1]
  simp only [List.getElem?_map, h2, Option.map_some]
  rfl

set_option maxHeartbeats 2000000 in
theorem read_any (B g : Nat) (p : Pk) (s : ByteArray) (w : World) (h : PSt w B g p) (hs : s.size ≤ 140737488355328) (hlg : ∀ q ∈ p.l, q.d.l.length ≤ 140737488355328) :
    Calls Try.prog 24 #[.pointer (some ⟨g, 0, none⟩), .string s] w (Gets w (p.vm.read s)) := by
  have HF := Lib.hid (find_any B g p s w h (by omega) (by unfold maxLen; omega))
  have HK := Lib.hid (fun (W : World) (hb : Below w.heap.size w W) => h.kept hb)
  obtain ⟨x, hx⟩ : ∃ x, findE p s = x := ⟨_, rfl⟩
  obtain ⟨v, hv⟩ : ∃ v, findV p s = v := ⟨_, rfl⟩
  obtain ⟨r, hr⟩ : ∃ r, p.vm.read s = r := ⟨_, rfl⟩
  rw [hr]
  rw [hx, hv] at HF
  have HR := Lib.hid (And.intro hr (And.intro hx hv))
  have HL := Lib.hid hlg
  clear h hx hv hr hlg
  by_cases h0 : x = 0
  · subst h0
    obtain ⟨h1, q, hq⟩ := findE_ok HR.out.2.1
    have HV : Hid (r = (q.d.l, 0) ∧ v = .pointer (some ⟨q.h, 0, none⟩)) := Lib.hid (by
      refine ⟨?_, ?_⟩
      · rw [← HR.out.1]
        unfold Vm.read
        rw [← findE_vm, HR.out.2.1, if_neg (by decide), show p.vm.fs = p.l.map Pf.rd from rfl, dataM_at hq]
      · rw [← HR.out.2.2]
        unfold findV
        rw [h1, if_neg (by decide), hq]
        rfl)
    have HQ := Lib.hid (findP_mem hq).1
    clear h1 hq
    have HCL := Lib.hid (fun (W : World) (hb : Below w.heap.size w W) => clone_any q.d.a q.d.l q.d.l.length q.d.c W rfl ((HK.out W hb).inn.file q HQ.out).row.lies (HL.out q HQ.out))
    have HA := Lib.hid (fun (W : World) (hb : Below w.heap.size w W) => ((HK.out W hb).inn.file q HQ.out).at_.cell.1)
    obtain ⟨qs, qh, ⟨qa, qc, ql⟩, qy⟩ := q
    unfold Sl.val at HA
    simp only at HCL HA HV
    obtain ⟨hv1, hv2⟩ := HV.out
    subst hv2
    obtain ⟨m, hm⟩ : ∃ m, ql.length = m := ⟨_, rfl⟩
    rw [hm] at HCL HA
    have HMM := Lib.hid hm
    clear hv1 hm
    go_enter Try.func24, Try.ntmps24
    go_wp2_with (first
      | (go_at_call 51; refine HF.out.mono ?_; rintro e w1 ⟨rfl, hb⟩; have B1 := Lib.hid hb; have a0 := HA.out _ hb; clear hb)
      | (go_at_call 34; refine (HCL.out _ B1.out).mono ?_; rintro e w2 ⟨A2, c2, rfl, r2, b2⟩; have R2 := Lib.hid (And.intro r2 b2); clear r2 b2))
    go_ret2
    obtain ⟨r2, b2⟩ := R2.out
    rw [HV.out.1]
    exact ⟨A2, c2, rfl, own_mono r2 B1.out.size, B1.out.trans (b2.mono B1.out.size)⟩
  · have HV : Hid (r = ([], x)) := Lib.hid (by
      rw [← HR.out.1]
      unfold Vm.read
      rw [← findE_vm, HR.out.2.1, if_pos h0])
    have d0 : (x != 0) = true := by simpa using h0
    clear h0
    go_enter Try.func24, Try.ntmps24
    go_wp2_with (go_at_call 51; refine HF.out.mono ?_; rintro e w1 ⟨rfl, hb⟩; have B1 := Lib.hid hb; clear hb)
    go_ret2
    rw [HV.out]
    exact ⟨none, 0, rfl, Row.nil _ _, B1.out⟩

/-- It answers texts in new memory, and a number. -/
def Lists (w : World) (p : List ByteArray × Int) (e : Ending) (w' : World) : Prop := ∃ A c, e = .returned (.tuple #[.slice A p.1.length c, .int .i64 p.2]) ∧ Trow w' w.heap.size A c p.1 ∧ Below w.heap.size w w'

set_option maxHeartbeats 2000000 in
theorem list_any (B g : Nat) (p : Pk) (w : World) (h : PSt w B g p) (hl : p.l.length * 16 ≤ 140737488355328) :
    Calls Try.prog 25 #[.pointer (some ⟨g, 0, none⟩)] w (Lists w p.vm.list) := by
  have HN := Lib.hid (names_any B g p w h hl)
  have HE := Lib.hid (ready_any g p none [] 0 0 w h.at_ rfl (.inl rfl) (by omega) (fun s hs => by cases hs))
  obtain ⟨r, hr⟩ : ∃ r, p.vm.list = r := ⟨_, rfl⟩
  rw [hr]
  have HR := Lib.hid hr
  obtain ⟨n, hn⟩ : ∃ n, (p.l.map Pf.s).length = n := ⟨_, rfl⟩
  have HNN := Lib.hid hn
  unfold Texts7 at HN
  rw [hn] at HN
  clear hr hn h hl
  cases hd : p.down
  · rw [hd] at HE
    have HV : Hid (r = (p.l.map Pf.s, 0)) := Lib.hid (by
      rw [← HR.out]
      unfold Vm.list
      rw [show p.vm.down = p.down from rfl, hd, show p.vm.fs = p.l.map Pf.rd from rfl, List.map_map]
      rfl)
    have HE2 : Hid (readyE false [] = 0) := Lib.hid rfl
    rw [HE2.out] at HE
    clear hd
    go_enter Try.func25, Try.ntmps25
    go_wp2_with (first
      | (go_at_call 47; refine HE.out.mono ?_; rintro e w1 ⟨rfl, hw⟩; subst hw)
      | (go_at_call 44; refine HN.out.mono ?_; rintro e w2 ⟨A2, c2, rfl, r2, b2⟩; have R2 := Lib.hid (And.intro r2 b2); clear r2 b2))
    go_ret2
    rw [HV.out]
    exact ⟨A2, c2, by rw [← HNN.out]; rfl, R2.out.1, R2.out.2⟩
  · rw [hd] at HE
    have HV : Hid (r = ([], 20)) := Lib.hid (by
      rw [← HR.out]
      unfold Vm.list
      rw [show p.vm.down = p.down from rfl, hd]
      rfl)
    have HE2 : Hid (readyE true [] = 20) := Lib.hid rfl
    rw [HE2.out] at HE
    clear hd
    go_enter Try.func25, Try.ntmps25
    go_wp2_with (go_at_call 47; refine HE.out.mono ?_; rintro e w1 ⟨rfl, hw⟩; subst hw)
    go_ret2
    rw [HV.out]
    exact ⟨none, 0, rfl, World.ownsRow_nil _ _ _ _, Below.refl _ _⟩

theorem changeP_vm (p : Pk) (s : ByteArray) : (changeP p s).2.2 = (if findE p s ≠ 0 then findE p s else (stepP p).2) ∧ (changeP p s).1 = (if findE p s ≠ 0 then p else (stepP p).1) := by
  unfold changeP
  by_cases h0 : findE p s = 0
  · by_cases h1 : (stepP p).2 = 0
    · simp [h0, h1]
    · simp [h0, h1]
  · simp [h0]
/-- What hindered a change: nothing is done but that the disk may have crashed. -/
theorem change_bad {w w' : World} {B g : Nat} {p : Pk} {s : ByteArray} {f : List (ByteArray × List Int × Int) → List (ByteArray × List Int × Int)} (h : PSt w B g p) (hk : PkAt w' g (changeP p s).1) (hb : BelowX w.heap.size g w w') (h0 : (changeP p s).2.2 ≠ 0) :
    (p.vm.does (findE p s) f).2 = (changeP p s).2.2 ∧ Rest w B g p (p.vm.does (findE p s) f).1 w' := by
  obtain ⟨e1, e2⟩ := changeP_vm p s
  obtain ⟨s1, s2, -⟩ := step_vm p
  unfold Vm.does
  by_cases h1 : findE p s = 0
  · rw [if_neg (by simp [h1])] at e1 e2
    rw [if_neg (by simp [h1]), e1]
    rw [e1] at h0
    rw [if_pos (by rw [← s2]; exact h0)]
    rw [e2] at hk
    obtain ⟨r1, r2⟩ := h.step hk hb
    exact ⟨s2.symm, _, r1, s1, r2⟩
  · rw [if_pos h1] at e1 e2
    rw [if_pos h1, e1]
    rw [e2] at hk
    obtain ⟨r1, r2⟩ := h.turned hk hb rfl rfl rfl rfl rfl rfl h.left h.room
    exact ⟨rfl, p, r1, rfl, r2⟩
/-- Nothing hindered it. -/
theorem change_good {p : Pk} {s : ByteArray} (h0 : (changeP p s).2.2 = 0) :
    ∃ q i, findP s p.l = some q ∧ p.l[i]? = some q ∧ findM s (p.l.map Pf.rd) = some i ∧ (changeP p s).2.1 = .pointer (some ⟨q.h, 0, none⟩) ∧ (changeP p s).1 = (stepP p).1 ∧ findE p s = 0 ∧ ∀ f, p.vm.does (findE p s) f = ({ (stepP p).1.vm with fs := f (p.l.map Pf.rd) }, 0) := by
  obtain ⟨e1, e2⟩ := changeP_vm p s
  obtain ⟨s1, s2, s3, -⟩ := step_vm p
  have h1 : findE p s = 0 := by
    by_cases h1 : findE p s = 0
    · exact h1
    · rw [if_pos h1, h0] at e1
      exact e1.symm
  rw [if_neg (by simp [h1]), h0] at e1
  rw [if_neg (by simp [h1])] at e2
  obtain ⟨h2, q, hq⟩ := findE_ok h1
  obtain ⟨i, h3, h4⟩ := findM_P hq
  refine ⟨q, i, hq, h4, h3, ?_, e2, h1, fun f => ?_⟩
  · unfold changeP
    rw [if_neg (by simp [h1]), if_neg (by simp [e1.symm])]
    unfold findV
    rw [if_neg (by simp [h2]), hq]
    rfl
  · unfold Vm.does
    rw [if_neg (by simp [h1]), if_neg (by rw [← s2, ← e1]; simp), ← s1]
    rfl

set_option maxHeartbeats 2000000 in
theorem sync_any (B g : Nat) (p : Pk) (s : ByteArray) (w : World) (h : PSt w B g p) (hs : s.size ≤ 140737488355328) :
    Calls Try.prog 21 #[.pointer (some ⟨g, 0, none⟩), .string s] w fun e w' => e = .returned (.int .i64 (p.vm.sync s).2) ∧ Rest w B g p (p.vm.sync s).1 w' := by
  have HC := Lib.hid (change_any B g p s w h (by omega) (by unfold maxLen; omega))
  have H := Lib.hid h
  obtain ⟨M, hM⟩ : ∃ M, p.vm.sync s = M := ⟨_, rfl⟩
  rw [hM]
  have HM : Hid (p.vm.does (findE p s) (syncM s) = M) := Lib.hid (by rw [← hM, findE_vm]; rfl)
  obtain ⟨c, hc⟩ : ∃ c, changeP p s = c := ⟨_, rfl⟩
  rw [hc] at HC
  have HCC := Lib.hid hc
  obtain ⟨c1, c2, c3⟩ := c
  unfold TurnsV at HC
  simp only at HC
  clear h hM hc
  by_cases h0 : c3 = 0
  · subst h0
    obtain ⟨q, i, hq, hi, hf, hp, h1, he, hv⟩ := change_good (p := p) (s := s) (by rw [HCC.out])
    rw [HCC.out] at hp h1
    simp only at hp h1
    subst hp
    subst h1
    have HST := Lib.hid (fun (w' : World) (hk : PkAt w' g (stepP p).1) (hb : BelowX w.heap.size g w w') => H.out.step hk hb)
    have HL : Hid ((stepP p).1.l = p.l) := Lib.hid (step_vm p).2.2.1
    have HQ : Hid ((stepP p).1.l[i]? = some q ∧ q ∈ (stepP p).1.l) := Lib.hid (by rw [HL.out]; exact ⟨hi, (findP_mem hq).1⟩)
    have HV : Hid (M = ({ (stepP p).1.vm with fs := syncM s (p.l.map Pf.rd) }, 0) ∧ syncM s (p.l.map Pf.rd) = (p.l.set i { q with y := q.d.l.length }).map Pf.rd) := Lib.hid (by
      refine ⟨by rw [← HM.out, hv], ?_⟩
      unfold syncM
      rw [hf, setP_rd]
      simp only [List.getElem?_map, hi, Option.map_some]
      rfl)
    obtain ⟨p1, hp1⟩ : ∃ p1, (stepP p).1 = p1 := ⟨_, rfl⟩
    rw [hp1] at HC HST HL HQ HV
    clear hq hi hf he hv hp1 HCC HM
    obtain ⟨qs, qh, ⟨qa, qc, ql⟩, qy⟩ := q
    simp only at HC HV
    obtain ⟨m, hm⟩ : ∃ m, ql.length = m := ⟨_, rfl⟩
    have HMM := Lib.hid hm
    go_enter Try.func21, Try.ntmps21
    go_wp2_with (go_at_call 49; refine HC.out.mono ?_; rintro e w1 ⟨rfl, hk, hb⟩; have E1 := Lib.hid (HST.out w1 hk hb); have hfi := (E1.out.1.inn.file _ HQ.out.2).at_; obtain ⟨a0, a1⟩ := hfi.cell; have f1 := hfi.frozen 1; unfold Sl.val at a0; simp only at a0 a1 f1; rw [hm] at a0; clear hk hb hfi)
    go_ret
    rw [HV.out.1]
    refine ⟨rfl, ?_⟩
    have hfi := E1.out.1.inn.file _ HQ.out.2
    have hset : FileOk (w1.setCell ⟨qh, 1, none⟩ (.int .i64 m)) B ⟨qs, qh, ⟨qa, qc, ql⟩, m⟩ :=
      ⟨FileAt.set1 hfi.at_, hfi.low, own_block hfi.row (fun ad ha => Below.heap_setCell w1 ⟨qh, 1, none⟩ _ _ (fun e => by
        obtain ⟨cur, hc⟩ := own_type hfi.row ha
        have := hfi.at_
        unfold FileAt at this
        simp only at e this
        rw [e, this] at hc
        injection hc with hc
        injection hc with _ hc
        exact absurd hc (by decide))), hfi.byt⟩
    obtain ⟨r1, r2⟩ := E1.out.1.reput HQ.out.1 (q' := ⟨qs, qh, ⟨qa, qc, ql⟩, m⟩) rfl rfl hset (fun ad ha => .inl (.inr ⟨ad, ha, rfl⟩)) (does_set (.inl rfl)) rfl
    refine ⟨_, r1, ?_, E1.out.2.trans r2⟩
    rw [HV.out.2, ← HL.out, HMM.out]
    rfl
  · have HB := Lib.hid (fun (w' : World) (hk : PkAt w' g (changeP p s).1) (hb : BelowX w.heap.size g w w') => change_bad (s := s) (f := syncM s) H.out hk hb (by rw [HCC.out]; exact h0))
    rw [HCC.out, HM.out] at HB
    simp only at HB
    have d0 : (c3 != 0) = true := by simpa using h0
    clear h0
    go_enter Try.func21, Try.ntmps21
    go_wp2_with (go_at_call 49; refine HC.out.mono ?_; rintro e w1 ⟨rfl, hk, hb⟩; have E1 := Lib.hid (HB.out w1 hk hb); clear hk hb)
    go_ret
    rw [E1.out.1]
    exact ⟨rfl, E1.out.2⟩

end Go.Proofs.Ytjacjafpeajhaaa
