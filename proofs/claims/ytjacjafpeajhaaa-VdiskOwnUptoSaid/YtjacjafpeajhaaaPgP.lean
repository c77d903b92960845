/-
  Walks: the program's disk: Dump.
-/
import Derived.Test.YtjacjafpeajhaaaPgO
namespace Go.Proofs.Ytjacjafpeajhaaa
open Go.RowKit
open Go.Maps

/-- It answers files of the call's own, that read so. -/
def Dumped (w : World) (fs : List (ByteArray × List Int × Int)) (e : Ending) (w' : World) : Prop := ∃ l', l'.map Fl.rd = fs ∧ Mades w' w.heap.size l' ∧ Files w w.heap.size l' e w'

theorem clone_n (A : Option Addr) (L : List Int) (n c : Nat) (w : World) (hn : L.length = n) (h : Bys w A L) (hl : n ≤ 140737488355328) :
    Calls Try.prog 34 #[.slice A n c] w fun e w' => ∃ A' c', e = .returned (.slice A' n c') ∧ Row w' w.heap.size A' c' L ∧ Below w.heap.size w w' := by
  refine (clone_any A L n c w hn h hl).mono ?_
  rintro e w' ⟨A', c', rfl, r1, r2⟩
  exact ⟨A', c', by rw [hn], r1, r2⟩

set_option maxHeartbeats 2000000 in
theorem dump_nil (w : World) : Calls Try.prog 16 #[.pointer none] w fun e w' => e = .returned (.slice none 0 0) ∧ w = w' := by
  go_enter Try.func16, Try.ntmps16
  go_wp2_with fail
  go_ret
  exact ⟨rfl, rfl⟩

set_option maxRecDepth 100000 in
set_option maxHeartbeats 8000000 in
theorem dump_any (B g : Nat) (p : Pk) (w : World) (h : PSt w B g p) (hl : p.l.length * 48 ≤ 140737488355328) (hlg : ∀ q ∈ p.l, q.d.l.length ≤ 140737488355328) (hss : ∀ q ∈ p.l, q.s.size ≤ 140737488355328) :
    Calls Try.prog 16 #[.pointer (some ⟨g, 0, none⟩)] w (Dumped w (p.l.map Pf.rd)) := by
  have HN := Lib.hid (names_any B g p w h (by omega))
  have H := Lib.hid h
  have HL := Lib.hid (And.intro hlg hss)
  obtain ⟨n, hn⟩ : ∃ n, p.l.length = n := ⟨_, rfl⟩
  have HNN := Lib.hid hn
  have hT : (p.l.map Pf.s).length = n := by rw [List.length_map, hn]
  unfold Texts7 at HN
  rw [hT] at HN
  rw [hn] at hl
  clear h hlg hss hn hT
  go_enter Try.func16, Try.ntmps16
  go_wp2_with (go_at_call 44; refine HN.out.mono ?_; rintro e w1 ⟨A1, c1, rfl, r1, b1⟩; have R1 := Lib.hid (And.intro r1.lies b1); clear r1 b1)
  have HT := Lib.hid (fun (W : World) (hb : Below w1.heap.size w1 W) => R1.out.1.kept hb)
  have HP1 := Lib.hid (fun (W : World) (hb : Below w1.heap.size w1 W) => H.out.kept (R1.out.2.trans (hb.mono R1.out.2.size)))
  go_loopw [3, 12] (fun t3 t12 wr => ∃ (k : Nat) (A2 : Option Addr) (c2 : Nat) (l' : List Fl), k ≤ n ∧ t12 = .int .i64 k ∧ t3 = .slice A2 k c2 ∧ Hid (l'.length = k) ∧ Hid (l'.map Fl.rd = (p.l.take k).map Pf.rd) ∧ Hid (Mades wr w1.heap.size l') ∧ Hid (Frow wr w1.heap.size A2 c2 l') ∧ Hid (Below w1.heap.size w1 wr)) (fun _ t12 _ => n - (intOf t12).toNat)
  case atStart => exact ⟨0, none, 0, [], by omega, rfl, rfl, Lib.hid rfl, Lib.hid rfl, Lib.hid (Mades.nil _ _), Lib.hid (Frow.nil _ _), Lib.hid (Below.refl _ _)⟩
  case round =>
    obtain ⟨k, A2, c2, l', hk, rfl, rfl, hl2, hr, hm, r2, b2⟩ := hrel
    by_cases hlt : k < n
    · have hq := List.getElem?_eq_getElem (l := p.l) (i := k) (by have := HNN.out; omega)
      generalize p.l[k]'(by have := HNN.out; omega) = q at hq
      have hmem := List.mem_of_getElem? hq
      have HQ := Lib.hid (And.intro hq hmem)
      obtain ⟨ad, hA, hc⟩ := (HT.out _ b2.out).resolve_left (fun e => by have h2 := congrArg List.length e; rw [List.length_map, List.length_map, List.length_nil] at h2; have := HNN.out; omega)
      subst hA
      have a0 := hc k (.string q.s) (by rw [List.getElem?_map, List.getElem?_map, hq]; rfl)
      have k0 := (HP1.out _ b2.out).at_.cell.1
      have HLK := look_run (HP1.out _ b2.out).inn.map q.s (by have := HL.out.2 q hmem; unfold maxLen; omega)
      rw [findP_of H.out.inn.srt hmem] at HLK
      unfold ptrOf Pf.at_ at HLK
      have HFI := Lib.hid (fun (W : World) (hb : Below w1.heap.size w1 W) => (HP1.out W hb).inn.file q hmem)
      have HCL := Lib.hid (fun (W : World) (hb : Below w1.heap.size w1 W) => clone_n q.d.a q.d.l q.d.l.length q.d.c W rfl (HFI.out W hb).row.lies (HL.out.1 q hmem))
      obtain ⟨xs, xh, ⟨xa, xc, xl⟩, xy⟩ := q
      simp only at HLK HFI HCL a0
      obtain ⟨m, hm2⟩ : ∃ m, xl.length = m := ⟨_, rfl⟩
      have HMM := Lib.hid hm2
      have HK : Hid (∀ W, Below w1.heap.size w1 W → W.cell? ⟨xh, 0, none⟩ = some (.slice xa m xc) ∧ W.cell? ⟨xh, 1, none⟩ = some (.int .i64 xy)) := Lib.hid (fun W hb => by
        have := (HFI.out W hb).at_.cell
        unfold Sl.val at this
        simp only [hm2] at this
        exact this)
      rw [hm2] at HCL
      obtain ⟨z0, z1⟩ := HK.out _ b2.out
      have CB := Lib.hid b2.out
      have CF := Lib.hid r2.out
      have CM := Lib.hid hm.out
      have WS : Hid (w1.heap.size ≤ wr.heap.size) := Lib.hid b2.out.size
      clear hq hmem hm2 hc
      go_upto_region 8 with fail
      clear k0 HLK a0
      go_region_held3 (fun W => W.cell? ⟨xh, 0, none⟩ = some (.slice xa m xc) ∧ W.cell? ⟨xh, 1, none⟩ = some (.int .i64 xy)) (first | exact HK.out _ CB.out | exact HK.out _ CB.out.drew | exact HK.out _ (CB.out.alloc CB.out.size _) | exact HK.out _ (CB.out.alloc CB.out.size _).drew | go_keep) (first
        | (go_at_call 34; refine (HCL.out _ (by first | exact CB.out | exact CB.out.drew)).mono ?_; rintro e w6 ⟨A6, c6, rfl, r6, b6⟩; have R6 := Lib.hid r6; have B6 : Hid (Below wr.heap.size wr w6) := Lib.hid ((by repeat (first | exact Below.refl _ _ | refine Below.drew ?_) : Below wr.heap.size wr _).trans b6); have CF := Lib.hid (own_kept CF.out B6.out (Nat.le_refl _)); have CM := Lib.hid (CM.out.kept B6.out (Nat.le_refl _)); have CB := Lib.hid (CB.out.trans (B6.out.mono WS.out)); clear r6 b6)
        | (refine step_append_frow _ (by rfl) (.tmp 22) (.tmp 34) (by rfl) w1.heap.size A2 c2 l' [⟨xs, ⟨A6, c6, xl⟩, xy⟩] _ k 1 1 (by simp [Act.eval]) (by simp [Act.eval]) hl2.out rfl (CF.out.alloc _) (lit_file3 _ xs A6 c6 xl xy m HMM.out) (by have := CB.out.size; simp; omega) (by have := hl2.out; simp; omega) ?_; intro A7 c7 w7 r7 b7 g7; have R7 := Lib.hid r7; have CM := Lib.hid (((CM.out.kept (below_new _ _) (Nat.le_refl _)).besideF (CF.out.alloc _) (by rw [hl2.out]; exact g7))); have CR := Lib.hid (((R6.out.kept (below_new _ _) (Nat.le_refl _)).besideF (CF.out.alloc _) (by rw [hl2.out]; exact g7))); have CB := Lib.hid ((CB.out.alloc CB.out.size _).trans b7); clear r7 b7 g7))
      all_goals
        go_wp2_with fail
        go_roundw
        case rel => exact ⟨k + 1, A7, c7, l' ++ [⟨xs, ⟨A6, c6, xl⟩, xy⟩], by omega, by go_num, rfl, Lib.hid (by rw [List.length_append, hl2.out]; rfl), Lib.hid (by rw [List.map_append, hr.out, List.take_add_one, HQ.out.1]; simp [Fl.rd, Pf.rd]), Lib.hid (CM.out.snoc (CR.out.mono WS.out)), Lib.hid R7.out, CB⟩
        case measure => simp [intOf]; omega
    · obtain rfl : k = n := by omega
      have hr' := hr.out
      rw [List.take_of_length_le (by have := HNN.out; omega)] at hr'
      have HR := Lib.hid hr'
      clear hr'
      go_wp2_with fail
      go_ret
      exact ⟨l', HR.out, hm.out.mono R1.out.2.size, A2, c2, ret_slice hl2.out, own_mono r2.out R1.out.2.size, R1.out.2.trans (b2.out.mono R1.out.2.size)⟩

end Go.Proofs.Ytjacjafpeajhaaa
