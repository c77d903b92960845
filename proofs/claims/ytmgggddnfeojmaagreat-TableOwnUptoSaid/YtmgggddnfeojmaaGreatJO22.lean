/-
  Walks: a disk made of files. Walks: whether a name is free. Walks: Open and Write. Plain: a table of entries in order, whole; a disk that holds one file. Nothing of the program but the disk's calls on what is read. Walks: Write. Walks: an entry copied, by the document.
-/
import Derived.Test.YtmgggddnfeojmaaGreatJO20
import Derived.Test.YtmgggddnfeojmaaGreatJO21
set_option linter.unusedSimpArgs false
set_option linter.unusedVariables false
namespace Go.Proofs.YtmgggddnfeojmaaGreat
open Go.RowKit
open Go.Maps
/-- What Of answers. -/
def OpenedP (w : World) (l : List Fl) (r : Int) (ops room : Int) (keep : List Int) (e : Ending) (w' : World) : Prop :=
  Below w.heap.size w w' ∧ ((r ≠ 0 ∧ e = .returned (.tuple #[.pointer none, .int .i64 r])) ∨ (r = 0 ∧ ∃ g p, e = .returned (.tuple #[.pointer (some ⟨g, 0, none⟩), .int .i64 0]) ∧ PSt w' w.heap.size g p ∧ p.vm = ⟨(insAll l).map Fl.rd, room, ops, keep, false⟩))
theorem OpenedP.bad {w w' : World} {l : List Fl} {r ops room : Int} {keep : List Int} (hr : r ≠ 0) (hb : Below w.heap.size w w') : OpenedP w l r ops room keep (.returned (.tuple #[.pointer none, .int .i64 r])) w' := ⟨hb, .inl ⟨hr, rfl⟩⟩
/-- The disk, so far. -/
structure Sofar (w wr : World) (l : List Fl) (i : Nat) (g : Nat) (p : Pk) (m : Vm) : Prop where
  st : PSt wr w.heap.size g p
  fs : p.l.map Pf.rd = (insAll (l.take i)).map Fl.rd
  vm : p.room = m.room ∧ p.left = m.left ∧ p.keep = m.keep ∧ p.down = m.down
  old : ∀ (j : Nat) (q : Fl), j < i → l[j]? = some q → findI q.s (insAll (l.take j)) < 0
  bel : Below w.heap.size w wr
theorem Sofar.len {w wr : World} {l : List Fl} {i g : Nat} {p : Pk} {m : Vm} (h : Sofar w wr l i g p m) (hi : i ≤ l.length) : p.l.length = i := by
  have := congrArg List.length h.fs
  rw [List.length_map, List.length_map, insAll_len, List.length_take] at this
  omega
theorem Sofar.dup {w wr : World} {l : List Fl} {i g : Nat} {p : Pk} {m : Vm} (h : Sofar w wr l i g p m) (s : ByteArray) : (vfindP s p.l = none ∧ findI s (insAll (l.take i)) < 0) ∨ (∃ q, vfindP s p.l = some q ∧ 0 ≤ findI s (insAll (l.take i))) := by
  rw [findI_md, ← h.fs]
  cases hf : vfindP s p.l with
  | none =>
    rw [findM_none hf]
    exact .inl ⟨rfl, by simp⟩
  | some q =>
    obtain ⟨j, e, -⟩ := findM_P hf
    rw [e]
    exact .inr ⟨q, rfl, by simp⟩
/-- One file more. -/
theorem Sofar.put {w wr W w' : World} {l : List Fl} {i g : Nat} {p : Pk} {m : Vm} (h : Sofar w wr l i g p m) {q : Fl} {q' : Pf} (hq : l[i]? = some q) (hr : q'.rd = q.rd) (hn : vfindP q.s p.l = none) (hb : Below wr.heap.size wr W) (hp : PSt w' w.heap.size g (putP p q')) (hd : Does (VTwo g p.b) (VTwo g p.b) W w') :
    Sofar w w' l (i + 1) g (putP p q') m := by
  refine ⟨hp, ?_, h.vm, fun j x hj hx => ?_, ?_⟩
  · show (insP q' p.l).map Pf.rd = _
    rw [insP_rd, hr, h.fs, insAll_snoc l i q hq, insM_rd]
  · by_cases e : j = i
    · subst e
      rw [hq] at hx
      injection hx with hx
      subst hx
      rcases h.dup q.s with h1 | ⟨_, h1, _⟩
      · exact h1.2
      · rw [hn] at h1
        cases h1
    · exact h.old j x (by omega) hx
  · have h1 : Below w.heap.size w W := h.bel.trans (hb.mono h.bel.size)
    refine h1.trans (hd.below h1.size (fun k hk => ?_))
    rcases hk with rfl | rfl
    · exact h.st.low
    · exact h.st.inn.mlow
set_option maxRecDepth 100000 in
set_option maxHeartbeats 8000000 in
theorem of_any (A : Option Addr) (l : List Fl) (n c : Nat) (ops room : Int) (K : Option Addr) (keep : List Int) (kn kc : Nat) (w : World) (hn : l.length = n) (h : Lies w A (fvals l)) (hi : FIns w l) (hl : n * 48 ≤ 140737488355328) (hlen : ∀ q ∈ l, q.d.l.length ≤ 140737488355328) (hss : ∀ q ∈ l, q.s.size ≤ 140737488355328)
    (hkn : keep.length = kn) (hk : Ints w K keep) (hkl : kn * 8 ≤ 140737488355328) (hki : ∀ x ∈ keep, -9223372036854775808 ≤ x ∧ x ≤ 9223372036854775807) (ho : -9223372036854775808 ≤ ops ∧ ops ≤ 9223372036854775807) (hm : -9223372036854775808 ≤ room ∧ room ≤ 9223372036854775807) :
    Calls Tryz.prog 27 #[.slice A n c, .agg #[.int .i64 ops, .int .i64 room, .slice K kn kc]] w (OpenedP w l (ofE l) ops room keep) := by
  obtain ⟨r, hr⟩ : ∃ r, ofE l = r := ⟨_, rfl⟩
  rw [hr]
  have HR := Lib.hid hr
  have HN := Lib.hid hn
  have HP := Lib.hid (fun (w' : World) (hb : Below w.heap.size w w') => h.kept hb)
  have HI := Lib.hid (fun (w' : World) (hb : Below w.heap.size w w') => hi.kept hb)
  have HB := Lib.hid (And.intro hlen hss)
  have HW : Hid (Below w.heap.size w (w.alloc (.cells #[.int .i64 ops, .int .i64 room, .slice K kn kc] 28))) := Lib.hid (below_new _ _)
  have HNW := Lib.hid (fun (W : World) (hb : Below w.heap.size w W) => new_any ops room K keep kn kc W hkn (Lies.kept hk hb) hkl hki ho hm)
  have hz : (w.alloc (.cells #[.int .i64 ops, .int .i64 room, .slice K kn kc] 28)).cell? ⟨w.heap.size, 0, none⟩ = some (.int .i64 ops) ∧ (w.alloc (.cells #[.int .i64 ops, .int .i64 room, .slice K kn kc] 28)).cell? ⟨w.heap.size, 1, none⟩ = some (.int .i64 room) ∧ (w.alloc (.cells #[.int .i64 ops, .int .i64 room, .slice K kn kc] 28)).cell? ⟨w.heap.size, 2, none⟩ = some (.slice K kn kc) := ⟨lit_cell w _ _ 0, lit_cell w _ _ 1, lit_cell w _ _ 2⟩
  have hsz : (w.alloc (.cells #[.int .i64 ops, .int .i64 room, .slice K kn kc] 28)).heap.size = w.heap.size + 1 := by simp
  have HZ := Lib.hid hz
  have HSZ := Lib.hid hsz
  clear hr hn h hi hlen hss hkn hk hkl hki ho hm hz hsz
  go_enter Tryz.func27, Tryz.ntmps27
  go_wp2_with fail
  generalize (w.alloc (.cells #[.int .i64 ops, .int .i64 room, .slice K kn kc] 28)) = w1 at HW HZ HSZ ⊢
  have HZZ := Lib.hid (fun (W : World) (hb : Below w1.heap.size w1 W) => (show W.cell? ⟨w.heap.size, 0, none⟩ = some (.int .i64 ops) ∧ W.cell? ⟨w.heap.size, 1, none⟩ = some (.int .i64 room) ∧ W.cell? ⟨w.heap.size, 2, none⟩ = some (.slice K kn kc) from by
    have e : W.heap[w.heap.size]? = w1.heap[w.heap.size]? := hb.block _ (by have := HSZ.out; omega)
    exact ⟨(World.cell?_of_block e).trans HZ.out.1, (World.cell?_of_block e).trans HZ.out.2.1, (World.cell?_of_block e).trans HZ.out.2.2⟩))
  clear HZ HSZ
  go_loopw [15] (fun t15 wr => ∃ k : Nat, k ≤ n ∧ t15 = .int .i64 k ∧ Hid (∀ (j : Nat) (q : Fl), j < k → l[j]? = some q → okName q.s = true) ∧ Hid (Below w1.heap.size w1 wr)) (fun t15 _ => n - (intOf t15).toNat)
  case atStart => exact ⟨0, by omega, rfl, Lib.hid (fun j q hj => by omega), Lib.hid (Below.refl _ _)⟩
  case round =>
    obtain ⟨k, hk, rfl, hf, hb⟩ := hrel
    have HWr : Hid (Below w.heap.size w wr) := Lib.hid (HW.out.trans (hb.out.mono HW.out.size))
    by_cases hlt : k < n
    · have hq := List.getElem?_eq_getElem (l := l) (i := k) (by have := HN.out; omega)
      generalize l[k]'(by have := HN.out; omega) = q at hq
      obtain ⟨ad, rfl, a0, a1, a2⟩ := lies_file (HP.out _ HWr.out) hq
      have HQ := Lib.hid hq
      obtain ⟨qs, ⟨qa, qc, ql⟩, qy⟩ := q
      simp only at a0 a1 a2
      obtain ⟨m, hm⟩ : ∃ m, ql.length = m := ⟨_, rfl⟩
      rw [hm] at a1
      have HNm := Lib.hid (isName_any qs (wr.alloc (.cells #[.string qs, .slice qa m qc, .int .i64 qy] 64)) (by have := HB.out.2 _ (List.mem_of_getElem? hq); simp only at this; omega))
      have HB1 := Lib.hid (hb.out.alloc hb.out.size (.cells #[.string qs, .slice qa m qc, .int .i64 qy] 64))
      clear hq hm
      cases ho : okName qs
      · rw [ho] at HNm
        have HV : Hid (r = 23) := Lib.hid (by rw [← HR.out]; unfold ofE; rw [some_true HQ.out (by simp [ho]), if_pos rfl])
        clear ho
        go_wp2_with (go_at_call 48; refine HNm.out.mono ?_; rintro e w2 ⟨rfl, hw⟩; subst hw)
        go_ret2
        rw [HV.out]
        exact OpenedP.bad (by decide) (HW.out.trans (HB1.out.mono HW.out.size))
      · rw [ho] at HNm
        have HO := Lib.hid ho
        clear ho
        go_wp2_with (go_at_call 48; refine HNm.out.mono ?_; rintro e w2 ⟨rfl, hw⟩; subst hw)
        go_roundw
        case rel => exact ⟨k + 1, by omega, by go_num, Lib.hid (fun j x hj hx => by
          by_cases e : j = k
          · subst e; rw [HQ.out] at hx; injection hx with hx; rw [← hx]; exact HO.out
          · exact hf.out j x (by omega) hx), HB1⟩
        case measure => simp [intOf]; omega
    · obtain rfl : k = n := by omega
      have HOK : Hid (l.any (fun q => !okName q.s) = false) := Lib.hid (some_false (fun j q hq => by rw [hf.out j q (by have := (List.getElem?_eq_some_iff.1 hq).1; have := HN.out; omega) hq]; rfl))
      obtain ⟨z0, z1, z2⟩ := HZZ.out _ hb.out
      clear hf
      go_wp2_with (go_at_call 10; refine (HNW.out _ HWr.out).mono ?_; rintro e w2 ⟨g, p, rfl, hp, hv, hb2⟩; have E2 := Lib.hid (And.intro hp (And.intro hv hb2)); clear hp hv hb2)
      obtain ⟨M, hM⟩ : ∃ M : Vm, M = ⟨[], room, ops, keep, false⟩ := ⟨_, rfl⟩
      have HM := Lib.hid hM
      have HS0 : Hid (Sofar w w2 l 0 g p M) := Lib.hid (by
        have hv := E2.out.2.1
        refine ⟨E2.out.1.mono HWr.out.size, ?_, ?_, fun j q hj => by omega, HWr.out.trans (E2.out.2.2.mono HWr.out.size)⟩
        · exact congrArg Vm.fs hv
        · rw [hM]
          exact ⟨congrArg Vm.room hv, congrArg Vm.left hv, congrArg Vm.keep hv, congrArg Vm.down hv⟩)
      clear hM E2
      go_loopw [28] (fun t28 wr => ∃ (i : Nat) (p : Pk), i ≤ k ∧ t28 = .int .i64 i ∧ Hid (Sofar w wr l i g p M)) (fun t28 _ => k - (intOf t28).toNat)
      case atStart => exact ⟨0, p, by omega, rfl, HS0⟩
      case round =>
        obtain ⟨i, p, hi, rfl, hs⟩ := hrel
        by_cases hlt2 : i < k
        · have hq := List.getElem?_eq_getElem (l := l) (i := i) (by have := HN.out; omega)
          generalize l[i]'(by have := HN.out; omega) = q at hq
          obtain ⟨ad, rfl, a0, a1, a2⟩ := lies_file (HP.out _ hs.out.bel) hq
          have HQ := Lib.hid hq
          have HX := Lib.hid (fun (W : World) (hb : Below w.heap.size w W) => (HI.out W hb) q (List.mem_of_getElem? hq))
          have HL := Lib.hid (And.intro (HB.out.1 q (List.mem_of_getElem? hq)) (HB.out.2 q (List.mem_of_getElem? hq)))
          obtain ⟨qs, ⟨qa, qc, ql⟩, qy⟩ := q
          simp only at a0 a1 a2 HX HL
          obtain ⟨m, hm⟩ : ∃ m, ql.length = m := ⟨_, rfl⟩
          rw [hm] at a1 HX HL
          have HMM := Lib.hid hm
          obtain ⟨W1, hW1⟩ : ∃ W1, wr.alloc (.cells #[.string qs, .slice qa m qc, .int .i64 qy] 64) = W1 := ⟨_, rfl⟩
          have HB1 : Hid (Below wr.heap.size wr W1) := Lib.hid (hW1 ▸ below_new _ _)
          have HS1 : Hid (W1.heap.size = wr.heap.size + 1) := Lib.hid (by rw [← hW1]; simp)
          have HC1 : Hid (W1.cell? ⟨wr.heap.size, 0, none⟩ = some (.string qs) ∧ W1.cell? ⟨wr.heap.size, 1, none⟩ = some (.slice qa m qc) ∧ W1.cell? ⟨wr.heap.size, 2, none⟩ = some (.int .i64 qy)) := Lib.hid (by rw [← hW1]; exact ⟨lit_cell wr _ _ 0, lit_cell wr _ _ 1, lit_cell wr _ _ 2⟩)
          have HP1 := Lib.hid (hs.out.st.kept HB1.out)
          clear hq hm
          go_upto_region 11 with fail
          obtain ⟨b0, b1, b2⟩ := HC1.out
          have k0 := HP1.out.at_.cell.1
          have HLK := fun n => look_run (w := W1.drewN n) HP1.out.inn.map qs (by have := HL.out.2; unfold maxLen; omega)
          rcases hs.out.dup qs with ⟨hf, hd⟩ | ⟨x, hf, hd⟩
          · rw [hf] at HLK
            unfold ptrOf at HLK
            have HF := Lib.hid (And.intro hf hd)
            clear hf hd
            go_quiet (fail)
            obtain ⟨Wq, hWq⟩ : ∃ Wq, W1.drewN nq = Wq := ⟨_, rfl⟩
            have HBq : Hid (Below wr.heap.size wr Wq) := Lib.hid (hWq ▸ below_drewN HB1.out nq)
            have HSq : Hid (Wq.heap.size = wr.heap.size + 1) := Lib.hid (by rw [← hWq]; exact HS1.out)
            have HCq : Hid (Wq.cell? ⟨wr.heap.size, 0, none⟩ = some (.string qs) ∧ Wq.cell? ⟨wr.heap.size, 1, none⟩ = some (.slice qa m qc) ∧ Wq.cell? ⟨wr.heap.size, 2, none⟩ = some (.int .i64 qy)) := Lib.hid (by rw [← hWq]; exact HC1.out)
            rw [hWq]
            clear hWq HLK b0 b1 b2 k0 HB1 HS1 HC1 HP1 hW1
            have HK := Lib.hid (fun (W : World) (e : W.heap[wr.heap.size]? = Wq.heap[wr.heap.size]?) => (show W.cell? ⟨wr.heap.size, 0, none⟩ = some (.string qs) ∧ W.cell? ⟨wr.heap.size, 1, none⟩ = some (.slice qa m qc) ∧ W.cell? ⟨wr.heap.size, 2, none⟩ = some (.int .i64 qy) from ⟨(World.cell?_of_block e).trans HCq.out.1, (World.cell?_of_block e).trans HCq.out.2.1, (World.cell?_of_block e).trans HCq.out.2.2⟩))
            have HKB := Lib.hid (fun (W : World) (hb : Below Wq.heap.size Wq W) => HK.out W (hb.block _ (by have := HSq.out; omega)))
            have HPq := Lib.hid (hs.out.st.kept HBq.out)
            have HCL : Hid (∀ W, Below Wq.heap.size Wq W → Calls Tryz.prog 42 #[.slice qa m qc] W fun e w' => ∃ A' c', e = .returned (.slice A' m c') ∧ Row w' W.heap.size A' c' ql ∧ Below W.heap.size W w') := Lib.hid (fun W hb => by
              have hx := HX.out W (hs.out.bel.trans ((HBq.out.trans (hb.mono HBq.out.size)).mono hs.out.bel.size))
              refine (vclone_any qa ql m qc W hx.len hx.bys HL.out.1).mono ?_
              rintro e w' ⟨A', c', rfl, r1, r2⟩
              exact ⟨A', c', by rw [HMM.out], r1, r2⟩)
            have HPUT : Hid (∀ (A5 : Option Addr) (c5 h : Nat) (X : World), Row X Wq.heap.size A5 c5 ql → FileAt X h ⟨A5, c5, ql⟩ qy → Wq.heap.size ≤ h → Below Wq.heap.size Wq X → Calls Tryz.prog 49 #[.pointer (some ⟨g, 0, none⟩), .string qs, .pointer (some ⟨h, 0, none⟩)] X fun e w' => e = .returned (.tuple #[]) ∧ Sofar w w' l (i + 1) g (putP p ⟨qs, h, ⟨A5, c5, ql⟩, qy⟩) M ∧ w'.cell? ⟨wr.heap.size, 0, none⟩ = some (.string qs) ∧ w'.cell? ⟨wr.heap.size, 1, none⟩ = some (.slice qa m qc) ∧ w'.cell? ⟨wr.heap.size, 2, none⟩ = some (.int .i64 qy)) := Lib.hid (fun A5 c5 h X hr hf hh hb => by
              have hw0 : w.heap.size ≤ Wq.heap.size := Nat.le_trans hs.out.bel.size HBq.out.size
              have hlen := hs.out.len (by have := HN.out; omega)
              have hbX : Below wr.heap.size wr X := HBq.out.trans (hb.mono HBq.out.size)
              refine (put_any w.heap.size g p ⟨qs, h, ⟨A5, c5, ql⟩, qy⟩ X (HPq.out.kept hb) ⟨hf, Nat.le_trans hw0 hh, hr.mono hw0, (HX.out wr hs.out.bel).byt⟩ (fun x hx => ⟨vfindP_none HF.out.1 x hx, ?_⟩) (by rw [hlen]; unfold maxLen; omega) (by have := HL.out.2; show qs.size ≤ _; omega) (by have := HL.out.2; show qs.size ≤ _; unfold maxLen; omega)).mono ?_
              · have hfx := HPq.out.inn.file x hx
                refine ⟨fun e => ?_, fun ad ad' h1 h2 e => ?_⟩
                · have := hfx.at_.lt
                  simp only at e
                  omega
                · have h3 := (own_in hr ad h1).1
                  have h4 := (own_in hfx.row ad' h2).2
                  omega
              · rintro e w' ⟨rfl, h1, h2⟩
                refine ⟨rfl, hs.out.put HQ.out rfl HF.out.1 hbX h1 h2, HK.out _ ?_⟩
                rw [h2.block _ (by have := hb.size; have := HSq.out; omega) (fun e => ?_), hb.block _ (by have := HSq.out; omega)]
                have hg := hs.out.st.at_.lt
                have hm := hs.out.st.inn.map.lt
                rcases e with e | e <;> omega)
            go_upto_region 13 with fail
            go_region_held3 (fun W => W.cell? ⟨wr.heap.size, 0, none⟩ = some (.string qs) ∧ W.cell? ⟨wr.heap.size, 1, none⟩ = some (.slice qa m qc) ∧ W.cell? ⟨wr.heap.size, 2, none⟩ = some (.int .i64 qy)) (first | exact C6.out | exact HKB.out _ (by repeat (first | exact Below.refl _ _ | exact B5.out | refine Below.drew ?_ | refine Below.alloc ?_ B5.out.size _)) | go_keep) (first
              | (go_at_call 42; refine (HCL.out _ (by repeat (first | exact Below.refl _ _ | refine Below.drew ?_))).mono ?_; rintro e w5 ⟨A5, c5, rfl, r5, b5⟩; have R5 := Lib.hid r5; have B5 : Hid (Below Wq.heap.size Wq w5) := Lib.hid ((by repeat (first | exact Below.refl _ _ | refine Below.drew ?_) : Below Wq.heap.size Wq _).trans b5); clear r5 b5)
              | (go_at_call 49; refine (HPUT.out A5 c5 w5.heap.size _ (Row.kept (C := w5.heap.size) R5.out (by repeat (first | exact Below.refl _ _ | refine Below.drew ?_ | refine Below.alloc ?_ (Nat.le_refl _) _)) (Nat.le_refl _)) (by first | exact file_made _ _ _ _ _ _ HMM.out | exact (file_made _ _ _ _ _ _ HMM.out).drew) B5.out.size (by repeat (first | exact B5.out | refine Below.drew ?_ | refine Below.alloc ?_ B5.out.size _))).mono ?_; rintro e w6 ⟨rfl, hs6, hc6⟩; have S6 := Lib.hid hs6; have C6 := Lib.hid hc6; clear hs6 hc6))
            all_goals
              go_wp2_with fail
              go_roundw
              case rel => exact ⟨i + 1, _, by omega, by go_num, S6⟩
              case measure => simp [intOf]; omega
          · rw [hf] at HLK
            unfold ptrOf Pf.at_ at HLK
            have HV : Hid (r = 31) := Lib.hid (by rw [← HR.out]; unfold ofE; rw [HOK.out, if_neg (by decide), dupB_true HQ.out hd, if_pos rfl])
            clear hf hd
            go_quiet (fail)
            go_wp2_with fail
            go_ret2
            rw [HV.out]
            exact OpenedP.bad (by decide) (hs.out.bel.trans ((below_drewN HB1.out _).mono hs.out.bel.size))
        · obtain rfl : i = k := by omega
          have HDUP : Hid (dupB l = false) := Lib.hid (dupB_false (fun j q hq => hs.out.old j q (by have := (List.getElem?_eq_some_iff.1 hq).1; have := HN.out; omega) hq))
          obtain ⟨wf, rfl⟩ : ∃ wf, wf = wr := ⟨_, rfl⟩
          go_wp2_with fail
          go_loopw [54] (fun t54 wz => ∃ (j : Nat), j ≤ i ∧ t54 = .int .i64 j ∧ Hid (∀ (x : Nat) (q : Fl), x < j → l[x]? = some q → ¬ (q.y < 0 ∨ (q.d.l.length : Int) < q.y)) ∧ Hid (Below wf.heap.size wf wz)) (fun t54 _ => i - (intOf t54).toNat)
          case atStart => exact ⟨0, by omega, rfl, Lib.hid (fun x q hx => by omega), Lib.hid (Below.refl _ _)⟩
          case round =>
            obtain ⟨j, hj, rfl, hz, hbz⟩ := hrel
            have HBW : Hid (Below w.heap.size w wr) := Lib.hid (hs.out.bel.trans (hbz.out.mono hs.out.bel.size))
            by_cases hlt3 : j < i
            · have hq := List.getElem?_eq_getElem (l := l) (i := j) (by have := HN.out; omega)
              generalize l[j]'(by have := HN.out; omega) = q at hq
              obtain ⟨ad, rfl, a0, a1, a2⟩ := lies_file (HP.out _ HBW.out) hq
              have HQ := Lib.hid hq
              obtain ⟨qs, ⟨qa, qc, ql⟩, qy⟩ := q
              simp only at a0 a1 a2
              obtain ⟨m, hm⟩ : ∃ m, ql.length = m := ⟨_, rfl⟩
              rw [hm] at a1
              have HMM := Lib.hid hm
              have HBN := Lib.hid (hbz.out.alloc hbz.out.size (.cells #[.string qs, .slice qa m qc, .int .i64 qy] 64))
              clear hq hm
              by_cases h1 : qy < 0
              · have HV : Hid (r = 2) := Lib.hid (by rw [← HR.out]; unfold ofE; rw [HOK.out, if_neg (by decide), HDUP.out, if_neg (by decide), some_true HQ.out (by simp; exact .inl h1), if_pos rfl])
                have d1 : decide (qy < 0) = true := by simpa using h1
                go_wp2_with fail
                go_ret2
                rw [HV.out]
                exact OpenedP.bad (by decide) (hs.out.bel.trans (HBN.out.mono hs.out.bel.size))
              · have d1 : decide (qy < 0) = false := by simpa using h1
                by_cases h2 : (m : Int) < qy
                · have HV : Hid (r = 2) := Lib.hid (by rw [← HR.out]; unfold ofE; rw [HOK.out, if_neg (by decide), HDUP.out, if_neg (by decide), some_true HQ.out (by simp; exact .inr (by rw [HMM.out]; exact h2)), if_pos rfl])
                  have d2 : decide ((m : Int) < qy) = true := by simpa using h2
                  go_wp2_with fail
                  go_ret2
                  rw [HV.out]
                  exact OpenedP.bad (by decide) (hs.out.bel.trans (HBN.out.mono hs.out.bel.size))
                · have HZ : Hid (¬ (qy < 0 ∨ (ql.length : Int) < qy)) := Lib.hid (by rw [HMM.out]; exact fun h => h.elim h1 h2)
                  have d2 : decide ((m : Int) < qy) = false := by simpa using h2
                  clear h1 h2
                  go_wp2_with fail
                  go_roundw
                  case rel => exact ⟨j + 1, by omega, by go_num, Lib.hid (fun x q hx hxq => by
                    by_cases e : x = j
                    · subst e; rw [HQ.out] at hxq; injection hxq with hxq; rw [← hxq]; exact HZ.out
                    · exact hz.out x q (by omega) hxq), HBN⟩
                  case measure => simp [intOf]; omega
            · obtain rfl : j = i := by omega
              have HV : Hid (r = 0) := Lib.hid (by
                rw [← HR.out]
                unfold ofE
                rw [HOK.out, if_neg (by decide), HDUP.out, if_neg (by decide), some_false (fun x q hxq => by
                  have := hz.out x q (by have := (List.getElem?_eq_some_iff.1 hxq).1; have := HN.out; omega) hxq
                  simpa using this), if_neg (by decide)])
              go_wp2_with fail
              go_ret2
              rw [HV.out]
              refine ⟨HBW.out, .inr ⟨rfl, g, p, rfl, hs.out.st.kept hbz.out, ?_⟩⟩
              have hfs := hs.out.fs
              rw [List.take_of_length_le (by have := HN.out; omega)] at hfs
              obtain ⟨v1, v2, v3, v4⟩ := hs.out.vm
              unfold Pk.vm
              rw [hfs, v1, v2, v3, v4, HM.out]
end Go.Proofs.YtmgggddnfeojmaaGreat
namespace Go.Proofs.YtmgggddnfeojmaaGreat
open Go.RowKit
open Go.Maps
/-- What is said of a name. -/
def freeV (m : Vm) (s : ByteArray) : Int := if okName s = false then 23 else if (m.read s).2 = 22 then 0 else if m.fs.any (fun x => decide (x.1 = s)) then 31 else (m.read s).2
theorem ofE_one (s : ByteArray) : ofE [⟨s, ⟨none, 0, []⟩, 0⟩] = if okName s = false then 23 else 0 := by
  cases h : okName s <;> simp [ofE, dupB, insAll, findI, h]
theorem opened_any {w w' : World} {l : List Fl} {r ops room : Int} {keep : List Int} {e : Ending} (h : OpenedP w l r ops room keep e w') : ∃ q, e = .returned (.tuple #[.pointer q, .int .i64 r]) ∧ Below w.heap.size w w' := by
  obtain ⟨hb, (⟨-, h⟩ | ⟨rfl, g, p, h, -⟩)⟩ := h
  · exact ⟨_, h, hb⟩
  · exact ⟨_, h, hb⟩
set_option maxRecDepth 100000 in
set_option maxHeartbeats 8000000 in
theorem unused_any (B g : Nat) (p : Pk) (m : Vm) (s : ByteArray) (w : World) (h : PSt w B g p) (hv : p.vm = m) (hs : s.size ≤ 140737488355328) (hf : Fits m 0) :
    Calls Tryz.prog 34 #[.pointer (some ⟨g, 0, none⟩), .string s] w fun e w' => e = .returned (.int .i64 (freeV m s)) ∧ Below w.heap.size w w' := by
  have HV := Lib.hid hv
  have hpf := hf.pf hv
  have hfl := hf.few
  have HOF := Lib.hid (of_any (some ⟨w.heap.size, 0, none⟩) [⟨s, ⟨none, 0, []⟩, 0⟩] 1 1 0 0 none [] 0 0 (w.alloc (.cells #[.string s, .slice none 0 0, .int .i64 0] 64)) rfl (lit_file3 w s none 0 [] 0 0 rfl) (fun q hq => by rw [List.mem_singleton] at hq; subst hq; exact in_nil _) (by decide) (fun q hq => by rw [List.mem_singleton] at hq; subst hq; exact Nat.zero_le _) (fun q hq => by rw [List.mem_singleton] at hq; subst hq; exact hs) rfl (.inl rfl) (by decide) (fun x hx => by cases hx) (by decide) (by decide))
  rw [ofE_one] at HOF
  have HRD : Hid (∀ W, Below w.heap.size w W → Calls Tryz.prog 29 #[.pointer (some ⟨g, 0, none⟩), .string s] W (Gets W (m.read s))) := Lib.hid (fun W hb => read_vm B g p m s W _ (h.kept hb) hv hs hf rfl)
  have HDU : Hid (∀ W, Below w.heap.size w W → Calls Tryz.prog 16 #[.pointer (some ⟨g, 0, none⟩)] W (Dumped W m.fs)) := Lib.hid (fun W hb => by
    have := dump_any B g p W (h.kept hb) (by rw [vm_len hv]; exact hfl) (fun q hq => by have := hpf.2.1 q hq; omega) hpf.2.2
    rwa [show p.l.map Pf.rd = m.fs by rw [← hv]; rfl] at this)
  have HB := Lib.hid (below_new w (.cells #[.string s, .slice none 0 0, .int .i64 0] 64))
  have HF9 : Hid (m.fs.length ≤ 2932031007403) := Lib.hid (by omega)
  clear h hpf hfl hf hv
  unfold freeV
  by_cases h0 : okName s = false
  · rw [if_pos h0] at HOF ⊢
    clear h0
    go_enter Tryz.func34, Tryz.ntmps34
    go_wp2_with (go_at_call 27; refine HOF.out.mono ?_; rintro e w1 h1; obtain ⟨q, rfl, b1⟩ := opened_any h1; have B1 := Lib.hid (below_then HB.out b1); clear h1 b1)
    go_ret
    exact ⟨rfl, B1.out⟩
  · rw [if_neg h0] at HOF ⊢
    obtain ⟨⟨D, er⟩, hr⟩ : ∃ r, m.read s = r := ⟨_, rfl⟩
    rw [hr] at HRD ⊢
    simp only
    clear h0 hr
    by_cases h1 : er = 22
    · subst h1
      rw [if_pos rfl]
      go_enter Tryz.func34, Tryz.ntmps34
      go_wp2_with (first
        | (go_at_call 27; refine HOF.out.mono ?_; rintro e w1 h1; obtain ⟨q, rfl, b1⟩ := opened_any h1; have B1 := Lib.hid (below_then HB.out b1); clear h1 b1)
        | (go_at_call 29; refine (HRD.out _ B1.out).mono ?_; rintro e w2 ⟨A2, c2, rfl, -, b2⟩; have B2 := Lib.hid (below_then B1.out b2); clear b2))
      go_ret
      exact ⟨rfl, B2.out⟩
    · rw [if_neg h1]
      have e1 : (er == 22) = false := by simpa using h1
      obtain ⟨fs, hfs⟩ : ∃ fs, m.fs = fs := ⟨_, rfl⟩
      have H9 := HF9.out
      rw [hfs] at HDU H9 ⊢
      replace H9 := Lib.hid H9
      obtain ⟨an, han⟩ : ∃ an : Int, (if fs.any (fun x => decide (x.1 = s)) then 31 else er) = an := ⟨_, rfl⟩
      rw [han]
      have HAN := Lib.hid han
      clear h1 hfs han
      go_enter Tryz.func34, Tryz.ntmps34
      go_wp2_with (first
        | (go_at_call 27; refine HOF.out.mono ?_; rintro e w1 h1; obtain ⟨q, rfl, b1⟩ := opened_any h1; have B1 := Lib.hid (below_then HB.out b1); clear h1 b1)
        | (go_at_call 29; refine (HRD.out _ B1.out).mono ?_; rintro e w2 ⟨A2, c2, rfl, -, b2⟩; have B2 := Lib.hid (below_then B1.out b2); clear b2)
        | (go_at_call 16; refine (HDU.out _ B2.out).mono ?_; rintro e w3 ⟨l', hl', -, A3, c3, rfl, r3, b3⟩; have R3 := Lib.hid r3; have B3 := Lib.hid (below_then B2.out b3); have HL3 := Lib.hid hl'; clear r3 b3 hl'))
      obtain ⟨n, hn⟩ : ∃ n, l'.length = n := ⟨_, rfl⟩
      have HN := Lib.hid hn
      rw [hn]
      clear hn
      have hn9 : (n : Int) ≤ 2932031007403 := by have h1 := HN.out; have h2 := congrArg List.length HL3.out; have h3 := H9.out; rw [List.length_map] at h2; omega
      go_loopw [33] (fun t33 wr => ∃ k : Nat, t33 = .int .i64 k ∧ k ≤ n ∧ Hid (∀ (i : Nat) (q : Fl), i < k → l'[i]? = some q → q.s ≠ s) ∧ Hid (Below w3.heap.size w3 wr)) (fun t33 _ => n - (intOf t33).toNat)
      case atStart => exact ⟨0, rfl, by omega, Lib.hid (fun i q h => by omega), Lib.hid (Below.refl _ _)⟩
      case round =>
        obtain ⟨k, rfl, hk, hq, b4⟩ := hrel
        by_cases hlt : k < n
        · have hg := List.getElem?_eq_getElem (l := l') (i := k) (by have := HN.out; omega)
          generalize l'[k]'(by have := HN.out; omega) = x at hg
          obtain ⟨ad, rfl, x0, x1, x2⟩ := lies_file (R3.out.kept b4.out (Nat.le_refl _)).lies hg
          have HG := Lib.hid hg
          have k0 : (k : Int) < n := by omega
          obtain ⟨dn, hdn⟩ : ∃ q, x.d.l.length = q := ⟨_, rfl⟩
          rw [hdn] at x1
          clear hg hdn
          by_cases hxs : x.s = s
          · have HXS := Lib.hid hxs
            have e2 : (x.s.toList == s.toList) = true := by rw [hxs]; exact beq_self_eq_true _
            clear hxs
            go_wp2_with fail
            go_ret
            refine ⟨?_, ?_⟩
            · rw [← HAN.out, if_pos]
              · rfl
              rw [List.any_eq_true]
              exact ⟨x.rd, by rw [← HL3.out]; exact List.mem_map_of_mem (List.mem_of_getElem? HG.out), decide_eq_true HXS.out⟩
            · exact (B3.out.trans (b4.out.mono B3.out.size)).alloc (by have := B3.out.size; have := b4.out.size; omega) _
          · have HXS := Lib.hid hxs
            have e2 : (x.s.toList == s.toList) = false := toList_ne hxs
            clear hxs
            go_wp2_with fail
            go_roundw
            case rel =>
              refine ⟨k + 1, by go_num, by omega, Lib.hid (fun i q hi hq2 => ?_), Lib.hid (b4.out.alloc b4.out.size _)⟩
              rcases Nat.lt_or_ge i k with h | h
              · exact hq.out i q h hq2
              · obtain rfl : i = k := by omega
                have h3 := HG.out
                rw [hq2] at h3
                injection h3 with h3
                exact h3 ▸ HXS.out
            case measure => simp [intOf]; omega
        · obtain rfl : k = n := by omega
          go_wp2_with fail
          go_ret
          refine ⟨?_, B3.out.trans (b4.out.mono B3.out.size)⟩
          rw [← HAN.out, if_neg]
          · rfl
          rw [← HL3.out]
          intro hc
          rw [List.any_eq_true] at hc
          obtain ⟨y, hy, hys⟩ := hc
          obtain ⟨x, hx, rfl⟩ := List.mem_map.1 hy
          obtain ⟨i, hi, hxi⟩ := List.mem_iff_getElem.1 hx
          exact hq.out i x (by have := HN.out; omega) (by rw [List.getElem?_eq_getElem hi, hxi]) (of_decide_eq_true hys)
end Go.Proofs.YtmgggddnfeojmaaGreat
namespace Go.Proofs.YtmgggddnfeojmaaGreat
open Go.RowKit
open Go.Maps
theorem read_byt {w : World} {B g : Nat} {p : Pk} {m : Vm} (h : PSt w B g p) (hv : p.vm = m) (s : ByteArray) : Byt (m.read s).1 := by
  subst hv
  unfold Vm.read
  split
  · exact fun x hx => by cases hx
  · show Byt (dataM s p.vm.fs)
    intro x hx
    unfold dataM at hx
    cases hf : findM s p.vm.fs with
    | none => rw [hf] at hx; simp at hx
    | some i =>
      rw [hf] at hx
      simp only at hx
      cases hq : p.vm.fs[i]? with
      | none => rw [hq] at hx; cases hx
      | some q =>
        rw [hq] at hx
        obtain ⟨q', hm, rfl⟩ := List.mem_map.1 (List.mem_of_getElem? hq)
        exact (h.inn.file q' hm).byt x hx
theorem read_len {m : Vm} {s : ByteArray} {N : Nat} (h : ∀ x ∈ m.fs, x.2.1.length ≤ N) : (m.read s).1.length ≤ N := by
  unfold Vm.read
  split
  · exact Nat.zero_le _
  · show (dataM s m.fs).length ≤ N
    unfold dataM
    cases hf : findM s m.fs with
    | none => simp
    | some i =>
      simp only
      cases hq : m.fs[i]? with
      | none => simp
      | some q => exact h q (List.mem_of_getElem? hq)
/-- What Open answers. -/
def OpenE (w : World) (r : List Int × Int) (e : Ending) (w' : World) : Prop := Below w.heap.size w w' ∧ ((r.2 ≠ 0 ∧ e = .returned (.tuple #[.pointer none, .int .i64 r.2])) ∨ (r.2 = 0 ∧ tableP r.1 = none ∧ e = .returned (.tuple #[.pointer none, .int .i64 11])) ∨ (r.2 = 0 ∧ ∃ t : Tm, tableP r.1 = some t.tb ∧ e = .returned (.tuple #[.pointer (some ⟨t.b, 0, none⟩), .int .i64 0]) ∧ TabAt w' t ∧ w.heap.size ≤ t.b ∧ w.heap.size ≤ t.mb ∧ t.cnt = (t.tb.rows.map Rw.count).sum))
set_option maxRecDepth 100000 in
set_option maxHeartbeats 4000000 in
theorem open_any (B g : Nat) (p : Pk) (m : Vm) (s : ByteArray) (w : World) (h : PSt w B g p) (hv : p.vm = m) (hs : s.size ≤ 140737488355328) (hf : Fits m 0) (h40 : ∀ x ∈ m.fs, x.2.1.length ≤ 1099511627776) :
    Calls Tryz.prog 17 #[.pointer (some ⟨g, 0, none⟩), .string s] w (OpenE w (m.read s)) := by
  have hy := read_byt h hv s
  have hl := read_len (s := s) h40
  have HR := Lib.hid (read_vm B g p m s w _ h hv hs hf rfl)
  obtain ⟨⟨D, er⟩, hr⟩ : ∃ r, m.read s = r := ⟨_, rfl⟩
  rw [hr] at hy hl HR ⊢
  simp only at hy hl
  have HT : Hid (∀ A c W, Row W w.heap.size A c D → Calls Tryz.prog 43 #[.slice A D.length c] W (TbE W (tableP D))) := Lib.hid (fun A c W hrow => tableOf_any A D _ c W (hrow.in_ hy) hl)
  obtain ⟨dn, hdn⟩ : ∃ n, D.length = n := ⟨_, rfl⟩
  unfold Gets at HR
  simp only at HR
  rw [hdn] at HR HT
  clear h hf h40 hv hr hdn hy hl
  by_cases h0 : er = 0
  · subst h0
    obtain ⟨R, hR⟩ : ∃ R, tableP D = R := ⟨_, rfl⟩
    rw [hR] at HT
    unfold TbE at HT
    have HRR := Lib.hid hR
    clear hR
    cases R with
    | none =>
      go_enter Tryz.func17, Tryz.ntmps17
      go_wp2_with (first
        | (go_at_call 29; refine HR.out.mono ?_; rintro e w1 ⟨A1, c1, rfl, r1, b1⟩; have R1 := Lib.hid r1; have B1 := Lib.hid b1; clear r1 b1)
        | (go_at_call 43; refine (HT.out _ _ _ R1.out).mono ?_; rintro e w2 ⟨b2, q, rfl⟩; have B2 := Lib.hid (below_then B1.out b2); clear b2))
      go_ret2
      exact ⟨B2.out, .inr (.inl ⟨rfl, HRR.out, rfl⟩)⟩
    | some tb =>
      go_enter Tryz.func17, Tryz.ntmps17
      go_wp2_with (first
        | (go_at_call 29; refine HR.out.mono ?_; rintro e w1 ⟨A1, c1, rfl, r1, b1⟩; have R1 := Lib.hid r1; have B1 := Lib.hid b1; clear r1 b1)
        | (go_at_call 43; refine (HT.out _ _ _ R1.out).mono ?_; rintro e w2 ⟨b2, t, rfl, t1, t2, t3, t4, t5⟩; have B2 := Lib.hid (below_then B1.out b2); have T2 := Lib.hid (And.intro t1 (And.intro t2 (And.intro t3 (And.intro t4 t5)))); clear b2 t1 t2 t3 t4 t5))
      go_ret2
      obtain ⟨t1, t2, t3, t4, t5⟩ := T2.out
      have := B1.out.size
      exact ⟨B2.out, .inr (.inr ⟨rfl, t, by rw [t2]; exact HRR.out, rfl, t1, by omega, by omega, by rw [t2]; exact t5⟩)⟩
  · have e1 : (er != 0) = true := by simpa using h0
    have H0 := Lib.hid h0
    clear h0 HT
    go_enter Tryz.func17, Tryz.ntmps17
    go_wp2_with (go_at_call 29; refine HR.out.mono ?_; rintro e w1 ⟨A1, c1, rfl, r1, b1⟩; have B1 := Lib.hid b1; clear r1 b1)
    go_ret2
    exact ⟨B1.out, .inl ⟨H0.out, rfl⟩⟩
/-- What Write leaves and answers. -/
def writeV (m : Vm) (s : ByteArray) (L : List Er) (b : Int) : Vm × Int :=
  if b < 1 ∨ 1024 < b then (m, 2) else if L = [] ∨ ¬ OrdL L then (m, 30) else if freeV m s ≠ 0 then (m, freeV m s)
  else if (m.append s (fileE L b.toNat)).2 ≠ 0 then m.append s (fileE L b.toNat) else (m.append s (fileE L b.toNat)).1.sync s
theorem rest_below {w w1 : World} {B g : Nat} {p : Pk} {m : Vm} (h : PSt w B g p) (hv : p.vm = m) (hb : Below w.heap.size w w1) : Rest w B g p m w1 := ⟨p, h.kept hb, hv, Does.of_below hb (fun _ hk => .inl hk)⟩
theorem rest_then {w w1 w2 : World} {B g : Nat} {p p1 : Pk} {m : Vm} (h : Does (p.own g) (p1.own g) w w1) (k : Rest w1 B g p1 m w2) : Rest w B g p m w2 := by
  obtain ⟨p2, h1, h2, h3⟩ := k
  exact ⟨p2, h1, h2, h.trans h3⟩
end Go.Proofs.YtmgggddnfeojmaaGreat
namespace Go.Proofs.YtmgggddnfeojmaaGreat
theorem rows_sum : ∀ (ps : List (List Er)) (a : Int), ((rowsE ps a).map Rw.count).sum = (ps.flatten.length : Nat)
  | [], _ => rfl
  | p :: ps, a => by
    have ih := rows_sum ps (a + ((frameE p).length : Int))
    simp only [rowsE, List.map_cons, List.sum_cons, List.flatten_cons, List.length_append, ih]
    omega
theorem last_get {l : List Er} {x : Er} (h : l[l.length - 1]? = some x) : lastE l = x.1 := by
  unfold lastE
  rw [List.getLast?_eq_getElem?, h]
/-- What a table of these entries answers. -/
structure Whole (l : List Er) (tb : Tb) : Prop where
  get : ∀ k s, getP tb k s = (getE l k s, false)
  range : ∀ lo hi, rangeP tb lo hi = (rangeE l lo hi, false)
  sum : (tb.rows.map Rw.count).sum = (l.length : Nat)
  first : ∃ r x, tb.rows[0]? = some r ∧ l[0]? = some x ∧ r.first.1 = x.1
  last : ∀ x, l[l.length - 1]? = some x → tb.great = x.1
  few : tb.rows.length ≤ l.length
theorem whole_file {l : List Er} {size : Nat} (ho : OrdL l) (hne : l ≠ []) (hB : ByL l) (h1 : 1 ≤ size) (h2 : size ≤ 1024) (hl : l.length ≤ 9000000000000000000) : ∃ tb, tableP (fileE l size) = some tb ∧ Whole l tb := by
  obtain ⟨ps, qs, P⟩ := parts_of ho hne hB h1 h2
  obtain ⟨a, t1, t2⟩ := tableP_file ho hne hB h1 h2 hl
  rw [P.cut] at t1 t2
  have hn : ∀ p ∈ ps, p ≠ [] := fun p hp => (P.ok p hp).1.1
  have hg : ∀ e, goP ⟨fileE l size, rowsE ps a, lastE l⟩ e = (l.drop (seekN e l), false) := fun e => by
    have := goP_file (t := ⟨fileE l size, rowsE ps a, lastE l⟩) (e := e) (a := a) rfl (fun j p hp => t2 j p hp) hn (by rw [P.flat]; exact ho)
    rwa [P.flat] at this
  refine ⟨_, t1, ?_, ?_, ?_, ?_, ?_, ?_⟩
  · intro k s
    unfold getP
    rw [hg, getE_go ho]
  · intro lo hi
    unfold rangeP
    rw [hg, rangeE_go ho]
  · show ((rowsE ps a).map Rw.count).sum = _
    rw [rows_sum, P.flat]
  · have hf := P.flat
    have hne' := P.ne
    cases ps with
    | nil => exact absurd rfl hne'
    | cons p ps =>
      have hp := hn p (by simp)
      cases p with
      | nil => exact absurd rfl hp
      | cons e p =>
        refine ⟨_, e, rfl, ?_, rfl⟩
        rw [← hf]
        rfl
  · intro x hx
    exact last_get hx
  · show (rowsE ps a).length ≤ _
    rw [rowsE_len]
    have := pieces_few ps hn
    rwa [P.flat] at this
theorem rangeE_all {l : List Er} (h : ∀ x ∈ l, GoodE x) : rangeE l [] [] = l := by
  unfold rangeE
  rw [List.filter_eq_self]
  intro x hx
  have := (h x hx).1.1
  unfold inE
  have e : 0 ≤ cmpL x.1 [] := by
    cases hq : x.1 with
    | nil => rw [hq] at this; simp at this
    | cons a b => simp [cmpL]
  simp [e]
/-- A new disk; one that holds a file alone. -/
def calmV : Vm := ⟨[], -1, -1, [], false⟩
def loneV (s : ByteArray) (F : List Int) (y : Int) : Vm := ⟨[(s, F, y)], -1, -1, [], false⟩
theorem find_lone (s : ByteArray) (F : List Int) (y : Int) : findM s [(s, F, y)] = some 0 := by simp [findM]
theorem read_lone {s : ByteArray} (F : List Int) (y : Int) (hs : okName s = true) : (loneV s F y).read s = (F, 0) := by
  have h0 : (loneV s F y).hinder [s] s = 0 := by simp [Vm.hinder, loneV, readyE, hs, find_lone]
  unfold Vm.read
  rw [h0]
  simp [loneV, dataM, find_lone]
theorem read_calm {s : ByteArray} (hs : okName s = true) : calmV.read s = ([], 22) := by
  have h0 : calmV.hinder [s] s = 22 := by simp [Vm.hinder, calmV, readyE, hs, findM]
  unfold Vm.read
  rw [h0]
  simp
theorem append_calm {s : ByteArray} (F : List Int) (hs : okName s = true) : calmV.append s F = (loneV s F 0, 0) := by
  simp [Vm.append, calmV, readyE, hs, Vm.step, loneV, insM, findM, appM]
theorem sync_lone {s : ByteArray} (F : List Int) (y : Int) (hs : okName s = true) : (loneV s F y).sync s = (loneV s F F.length, 0) := by
  have h0 : (loneV s F y).hinder [s] s = 0 := by simp [Vm.hinder, loneV, readyE, hs, find_lone]
  unfold Vm.sync Vm.does
  rw [h0]
  simp [loneV, Vm.step, syncM, find_lone]
theorem write_calm {s : ByteArray} {L : List Er} {k : Nat} (hs : okName s = true) (h1 : 1 ≤ k) (h2 : k ≤ 1024) (hne : L ≠ []) (ho : OrdL L) : writeV calmV s L k = (loneV s (fileE L k) (fileE L k).length, 0) := by
  unfold writeV
  rw [if_neg (by omega), if_neg (by simp [hne, ho])]
  have hf : freeV calmV s = 0 := by unfold freeV; rw [hs, read_calm hs]; simp
  rw [hf, Int.toNat_natCast, append_calm _ hs]
  simp only [ne_eq, not_true_eq_false, if_false]
  rw [sync_lone _ _ hs]
theorem write_twice {s : ByteArray} {L : List Er} {k : Nat} {F : List Int} {y : Int} (hs : okName s = true) (h1 : 1 ≤ k) (h2 : k ≤ 1024) (hne : L ≠ []) (ho : OrdL L) : writeV (loneV s F y) s L k = (loneV s F y, 31) := by
  unfold writeV
  rw [if_neg (by omega), if_neg (by simp [hne, ho])]
  have hf : freeV (loneV s F y) s = 31 := by unfold freeV; rw [hs, read_lone _ _ hs]; simp [loneV]
  rw [hf]
  simp
theorem write_none (m : Vm) (s : ByteArray) (L : List Er) (b : Int) (h1 : 1 ≤ b ∧ b ≤ 1024) (h : L = [] ∨ ¬ OrdL L) : writeV m s L b = (m, 30) := by
  unfold writeV
  rw [if_neg (by omega), if_pos h]
end Go.Proofs.YtmgggddnfeojmaaGreat
namespace Go.Proofs.YtmgggddnfeojmaaGreat
open Go.RowKit
open Go.Maps
theorem fits_less {m : Vm} {N M : Nat} (h : Fits m N) (hm : M ≤ N) : Fits m M := ⟨h.few, fun x hx => by have := h.long x hx; omega, h.names⟩
set_option maxRecDepth 100000 in
set_option maxHeartbeats 8000000 in
theorem write_any (B g : Nat) (p : Pk) (m : Vm) (s : ByteArray) (A : Option Addr) (l : List En) (n c : Nat) (b : Int) (w : World) (h : PSt w B g p) (hv : p.vm = m) (hs : s.size ≤ 140737488355328) (hn : l.length = n) (hl : Lies w A (evals l)) (hi : EIns w l) (hfit : ∀ q ∈ l, EFit q) (hsz : n * 64 ≤ 140737488351232) (hc : n ≤ c) (hc9 : (c : Int) ≤ 9223372036854775807)
    (N : Nat) (hN : ers l ≠ [] → OrdL (ers l) → ∀ k, 1 ≤ k → k ≤ 1024 → (fileE (ers l) k).length ≤ N) (hf : Fits m N) (hsum : sumM m.fs + N ≤ 4611686018427387904) (hN9 : N ≤ 140737488355328) :
    Calls Tryz.prog 12 #[.pointer (some ⟨g, 0, none⟩), .string s, .slice A n c, .int .i64 b] w fun e w' => e = .returned (.int .i64 (writeV m s (ers l) b).2) ∧ Rest w B g p (writeV m s (ers l) b).1 w' := by
  have H := Lib.hid (And.intro h hv)
  by_cases h0 : b < 1 ∨ 1024 < b
  · have e0 : writeV m s (ers l) b = (m, 2) := if_pos h0
    rw [e0]
    have HR := Lib.hid (rest_below h hv (Below.refl w.heap.size w))
    clear hl hi hfit hN hf hsum hN9 h hv e0 hs hn hsz hc hc9 H
    by_cases h1 : b < 1
    · clear h0
      go_enter Tryz.func12, Tryz.ntmps12
      go_wp2_with fail
      go_ret
      exact ⟨rfl, HR.out⟩
    · have h2 : 1024 < b := h0.resolve_left h1
      have d1 : decide (b < 1) = false := decide_eq_false h1
      have d2 : decide (1024 < b) = true := decide_eq_true h2
      clear h0 h1 h2
      go_enter Tryz.func12, Tryz.ntmps12
      go_wp2_with fail
      go_ret
      exact ⟨rfl, HR.out⟩
  obtain ⟨k, rfl⟩ : ∃ k : Nat, b = k := ⟨b.toNat, by omega⟩
  have hk0 : 1 ≤ k := by omega
  have hk1 : k ≤ 1024 := by omega
  have d1 : decide ((k : Int) < 1) = false := decide_eq_false (by omega)
  have d2 : decide (1024 < (k : Int)) = false := decide_eq_false (by omega)
  have HMS := Lib.hid (mayStand_any A l n c w hn hl hi hfit hsz)
  by_cases he : l = []
  · have e0 : writeV m s (ers l) k = (m, 30) := by
      unfold writeV
      rw [if_neg h0, if_pos (.inl (by rw [he]; rfl))]
    rw [e0]
    have HR := Lib.hid (rest_below h hv (Below.refl w.heap.size w))
    obtain rfl : n = 0 := by rw [← hn, he]; rfl
    clear hl hi hfit hN hf hsum hN9 h hv e0 hs hn hsz hc hc9 H h0 he hk0 hk1 HMS
    go_enter Tryz.func12, Tryz.ntmps12
    go_wp2_with fail
    go_ret
    exact ⟨rfl, HR.out⟩
  have hn0 : n ≠ 0 := fun e => he (List.eq_nil_of_length_eq_zero (hn.trans e))
  have d3 : ((n : Int) == 0) = false := by simpa using hn0
  by_cases ho : OrdL (ers l)
  · rw [decide_eq_true ho] at HMS
    have hee : ers l ≠ [] := fun e => he (List.map_eq_nil_iff.1 e)
    have hL : ¬ (ers l = [] ∨ ¬ OrdL (ers l)) := fun e => e.elim (fun e => he (List.map_eq_nil_iff.1 e)) (fun e => e ho)
    have HU : Hid (∀ W, Below w.heap.size w W → Calls Tryz.prog 34 #[.pointer (some ⟨g, 0, none⟩), .string s] W fun e w' => e = .returned (.int .i64 (freeV m s)) ∧ Below W.heap.size W w') := Lib.hid (fun W hb => unused_any B g p m s W (h.kept hb) hv hs (fits_less hf (Nat.zero_le _)))
    have HFO : Hid (∀ W, Below w.heap.size w W → Calls Tryz.prog 36 #[.slice A n c, .int .i64 k] W (Longer W W.heap.size (fileE (ers l) k))) := Lib.hid (fun W hb => fileOf_any A l n c k W hn (hl.kept hb) (hi.kept hb) ho he hsz hc hc9 hk0 hk1 (Nat.le_trans (hN hee ho k hk0 hk1) hN9))
    have hv2 : writeV m s (ers l) k = if freeV m s ≠ 0 then (m, freeV m s) else if (m.append s (fileE (ers l) k)).2 ≠ 0 then m.append s (fileE (ers l) k) else (m.append s (fileE (ers l) k)).1.sync s := by
      conv => lhs; unfold writeV
      rw [if_neg h0, if_neg hL]
      rfl
    rw [hv2]
    obtain ⟨fv, hfv⟩ : ∃ fv, freeV m s = fv := ⟨_, rfl⟩
    rw [hfv] at HU ⊢
    have HRB : Hid (∀ W, Below w.heap.size w W → Rest w B g p m W) := Lib.hid (fun W hb => rest_below h hv hb)
    have hFB : Byt (fileE (ers l) k) := fileE_byt ho hee hi.byt (by rw [ers_len]; omega) hk0 hk1
    have hFN := hN hee ho k hk0 hk1
    obtain ⟨F, hF⟩ : ∃ F, fileE (ers l) k = F := ⟨_, rfl⟩
    rw [hF] at HFO hFB hFN ⊢
    obtain ⟨fn, hfn⟩ : ∃ fn, F.length = fn := ⟨_, rfl⟩
    have HAP : Hid (∀ W A' c', Below w.heap.size w W → Row W w.heap.size A' c' F → Calls Tryz.prog 35 #[.pointer (some ⟨g, 0, none⟩), .string s, .slice A' fn c'] W fun e w' => e = .returned (.int .i64 (m.append s F).2) ∧ Rest W B g p (m.append s F).1 w') := Lib.hid (fun W A' c' hb hr => append_vm B g p m _ _ s A' F fn c' W (h.kept hb) hv hs hfn hFB hr.lies (fun ad e => ⟨fun q => by have := (h.owned _ q).2; have := (own_in hr ad e).1; omega, (own_in hr ad e).2⟩) (fits_less hf (by omega)) (by omega) (by omega) rfl)
    unfold Longer at HFO
    rw [hfn] at HFO
    clear hl hi hfit hN hf hsum hN9 hn hsz hc hc9 h0 he hk0 hk1 hv2 hfv hFB hFN hF hfn hL ho hn0 hee
    by_cases f0 : fv = 0
    · subst f0
      rw [if_neg (by simp)]
      obtain ⟨⟨m1, r1⟩, hr1⟩ : ∃ r, m.append s F = r := ⟨_, rfl⟩
      rw [hr1] at HAP ⊢
      simp only at HAP ⊢
      by_cases a0 : r1 = 0
      · subst a0
        rw [if_neg (by simp)]
        have HSY : Hid (∀ W p1, PSt W B g p1 → p1.vm = m1 → Calls Tryz.prog 37 #[.pointer (some ⟨g, 0, none⟩), .string s] W fun e w' => e = .returned (.int .i64 (m1.sync s).2) ∧ Rest W B g p1 (m1.sync s).1 w') := Lib.hid (fun W p1 hp hv1 => sync_vm B g p1 m1 _ _ s W hp hv1 hs rfl)
        clear hr1 h hv hs
        go_enter Tryz.func12, Tryz.ntmps12
        go_wp2_with (first
          | (go_at_call 33; refine HMS.out.mono ?_; rintro e w1 ⟨rfl, b1⟩; have B1 := Lib.hid b1; clear b1)
          | (go_at_call 34; refine (HU.out _ B1.out).mono ?_; rintro e w2 ⟨rfl, b2⟩; have B2 := Lib.hid (below_then B1.out b2); clear b2)
          | (go_at_call 36; refine (HFO.out _ B2.out).mono ?_; rintro e w3 ⟨A3, c3, rfl, r3, b3⟩; have R3 := Lib.hid (Row.mono r3 B2.out.size); have B3 := Lib.hid (below_then B2.out b3); clear r3 b3)
          | (go_at_call 35; refine (HAP.out _ _ _ B3.out R3.out).mono ?_; rintro e w4 ⟨rfl, p4, s4, v4, d4⟩; have S4 := Lib.hid (And.intro s4 (And.intro v4 d4)); clear s4 v4 d4)
          | (go_at_call 37; refine (HSY.out _ _ S4.out.1 S4.out.2.1).mono ?_; rintro e w5 ⟨rfl, r5⟩; have R5 := Lib.hid r5; clear r5))
        go_ret
        exact ⟨rfl, rest_then ((Does.of_below B3.out (fun _ hk => .inl hk)).trans S4.out.2.2) R5.out⟩
      · have a1 : (r1 != 0) = true := by simpa using a0
        rw [if_pos a0]
        clear hr1 h hv hs a0
        go_enter Tryz.func12, Tryz.ntmps12
        go_wp2_with (first
          | (go_at_call 33; refine HMS.out.mono ?_; rintro e w1 ⟨rfl, b1⟩; have B1 := Lib.hid b1; clear b1)
          | (go_at_call 34; refine (HU.out _ B1.out).mono ?_; rintro e w2 ⟨rfl, b2⟩; have B2 := Lib.hid (below_then B1.out b2); clear b2)
          | (go_at_call 36; refine (HFO.out _ B2.out).mono ?_; rintro e w3 ⟨A3, c3, rfl, r3, b3⟩; have R3 := Lib.hid (Row.mono r3 B2.out.size); have B3 := Lib.hid (below_then B2.out b3); clear r3 b3)
          | (go_at_call 35; refine (HAP.out _ _ _ B3.out R3.out).mono ?_; rintro e w4 ⟨rfl, r4⟩; have R4 := Lib.hid r4; clear r4))
        go_ret
        exact ⟨rfl, rest_then (Does.of_below B3.out (fun _ hk => .inl hk)) R4.out⟩
    · have f1 : (fv != 0) = true := by simpa using f0
      rw [if_pos f0]
      clear h hv hs f0
      go_enter Tryz.func12, Tryz.ntmps12
      go_wp2_with (first
        | (go_at_call 33; refine HMS.out.mono ?_; rintro e w1 ⟨rfl, b1⟩; have B1 := Lib.hid b1; clear b1)
        | (go_at_call 34; refine (HU.out _ B1.out).mono ?_; rintro e w2 ⟨rfl, b2⟩; have B2 := Lib.hid (below_then B1.out b2); clear b2))
      go_ret
      exact ⟨rfl, HRB.out _ B2.out⟩
  · rw [decide_eq_false ho] at HMS
    have e0 : writeV m s (ers l) k = (m, 30) := by
      unfold writeV
      rw [if_neg h0, if_pos (.inr ho)]
    rw [e0]
    have HRB : Hid (∀ W, Below w.heap.size w W → Rest w B g p m W) := Lib.hid (fun W hb => rest_below h hv hb)
    clear hl hi hfit hN hf hsum hN9 h hv e0 hs hn hsz hc hc9 H h0 he hk0 hk1 ho hn0
    go_enter Tryz.func12, Tryz.ntmps12
    go_wp2_with (go_at_call 33; refine HMS.out.mono ?_; rintro e w1 ⟨rfl, b1⟩; have B1 := Lib.hid b1; clear b1)
    go_ret
    exact ⟨rfl, HRB.out _ B1.out⟩
end Go.Proofs.YtmgggddnfeojmaaGreat
namespace Go.Proofs.YtmgggddnfeojmaaGreat
open Go.RowKit
theorem cell_far {W : World} {g i : Nat} {u : Value} {x : Addr} (h : x.block ≠ g) : (W.setCell ⟨g, i, none⟩ u).cell? x = W.cell? x := by
  unfold World.cell?
  rw [Below.heap_setCell W ⟨g, i, none⟩ u x.block h]
set_option maxRecDepth 100000 in
set_option maxHeartbeats 8000000 in
theorem refOne_any (x : En) (w : World) (hx : EIn w x) (hk : x.k.l.length ≤ 140737488351232) (hv : x.v.l.length ≤ 140737488351232) : Calls Tryz.prog 38 #[x.val] w (ECop w x) := by
  have HX := Lib.hid (fun (W : World) (hb : Below w.heap.size w W) => hx.kept hb)
  have HL := Lib.hid (And.intro hk hv)
  rw [En.val_eq]
  obtain ⟨⟨ka, kc, k⟩, s, d, ⟨va, vc, v⟩⟩ := x
  simp only at hk hv HL ⊢
  obtain ⟨n, hn⟩ : ∃ n, k.length = n := ⟨_, rfl⟩
  obtain ⟨m, hm⟩ : ∃ m, v.length = m := ⟨_, rfl⟩
  have HN := Lib.hid hn
  have HM := Lib.hid hm
  rw [hn, hm]
  clear hn hm hk hv hx
  go_enter Tryz.func38, Tryz.ntmps38
  go_upto_region 1 with fail
  obtain ⟨w1, hw1⟩ : ∃ w1, ((w.alloc (.cells #[.slice ka n kc, .int .i64 s, .bool d, .slice va m vc] 48)).alloc (.cells #[.slice none 0 0, .int .i64 0, .bool false, .slice none 0 0] 48)) = w1 := ⟨_, rfl⟩
  have B1 : Hid (Below w.heap.size w w1) := Lib.hid (hw1 ▸ (below_new _ _).alloc (by simp) _)
  have hz : w1.heap.size = w.heap.size + 2 := by rw [← hw1]; simp
  have HH : Hid (∀ W : World, Below w1.heap.size w1 W → W.heap[w.heap.size]? = some (.cells #[.slice ka n kc, .int .i64 s, .bool d, .slice va m vc] 48 (0, 0))) := Lib.hid (fun W hb => by
    refine (hb.block w.heap.size (by omega)).trans ?_
    rw [← hw1, RowKit.Below.heap_alloc _ _ _ (by simp)]
    exact heap_alloc_new w _)
  have HR : Hid (∀ W : World, Below w1.heap.size w1 W → W.heap[w.heap.size + 1]? = some (.cells #[.slice none 0 0, .int .i64 0, .bool false, .slice none 0 0] 48 (0, 0))) := Lib.hid (fun W hb => by
    refine (hb.block (w.heap.size + 1) (by omega)).trans ?_
    have := heap_alloc_new (w.alloc (.cells #[.slice ka n kc, .int .i64 s, .bool d, .slice va m vc] 48)) (.cells #[.slice none 0 0, .int .i64 0, .bool false, .slice none 0 0] 48)
    rwa [hw1, show (w.alloc (.cells #[.slice ka n kc, .int .i64 s, .bool d, .slice va m vc] 48)).heap.size = w.heap.size + 1 by simp] at this)
  rw [hw1]
  clear hw1
  have HZ := Lib.hid hz
  have HC : Hid (∀ W : World, Below w1.heap.size w1 W → (W.cell? ⟨w.heap.size, 0, none⟩ = some (.slice ka n kc) ∧ W.cell? ⟨w.heap.size, 1, none⟩ = some (.int .i64 s) ∧ W.cell? ⟨w.heap.size, 2, none⟩ = some (.bool d) ∧ W.cell? ⟨w.heap.size, 3, none⟩ = some (.slice va m vc))) := Lib.hid (fun W hb => by
    have h := HH.out W hb
    refine ⟨?_, ?_, ?_, ?_⟩ <;> simp [World.cell?, h])
  have HD : Hid (∀ W : World, Below w1.heap.size w1 W → (W.cell? ⟨w.heap.size + 1, 0, none⟩ = some (.slice none 0 0) ∧ W.cell? ⟨w.heap.size + 1, 1, none⟩ = some (.int .i64 0) ∧ W.cell? ⟨w.heap.size + 1, 2, none⟩ = some (.bool false) ∧ W.cell? ⟨w.heap.size + 1, 3, none⟩ = some (.slice none 0 0)) ∧ W.frozen? ⟨w.heap.size + 1, 0, none⟩ = false ∧ W.frozen? ⟨w.heap.size + 1, 1, none⟩ = false ∧ W.frozen? ⟨w.heap.size + 1, 2, none⟩ = false ∧ W.frozen? ⟨w.heap.size + 1, 3, none⟩ = false) := Lib.hid (fun W hb => by
    have h := HR.out W hb
    refine ⟨⟨?_, ?_, ?_, ?_⟩, ?_, ?_, ?_, ?_⟩ <;> simp [World.cell?, World.frozen?, h])
  have HX2 : Hid (∀ W : World, Below w1.heap.size w1 W → Bys W ka k ∧ Bys W va v) := Lib.hid (fun W hb => by
    have := HX.out W (B1.out.trans (hb.mono B1.out.size))
    exact ⟨this.1.bys, this.2.bys⟩)
  have BB := Lib.hid (Below.refl w1.heap.size w1)
  have T1 := Lib.hid trivial
  have T2 := Lib.hid trivial
  clear hz HX
  go_region_held3 (fun W => (W.cell? ⟨w.heap.size, 0, none⟩ = some (.slice ka n kc) ∧ W.cell? ⟨w.heap.size, 1, none⟩ = some (.int .i64 s) ∧ W.cell? ⟨w.heap.size, 2, none⟩ = some (.bool d) ∧ W.cell? ⟨w.heap.size, 3, none⟩ = some (.slice va m vc))) (first | exact HC.out _ BB.out | (refine HC.out _ ?_; (repeat (first | with_reducible exact BB.out | with_reducible exact Below.refl _ _ | with_reducible refine Below.drew ?_ | with_reducible refine below_al ?_ _)); done) | (refine ⟨?_, ?_, ?_, ?_⟩ <;> (rw [cell_far (by simp), cell_far (by simp), cell_far (by simp), cell_far (by simp)]; have h := HC.out _ BB.out; first | exact h.1 | exact h.2.1 | exact h.2.2.1 | exact h.2.2.2)) | go_keep) (first
    | (have t1 := T1; refine step_append_zero _ (by rfl) (.tmp 3) (.tmp 5) (by rfl) _ k ka n kc rfl rfl HN.out ?_ ?_ ?_ ?_; (repeat (first | ((with_reducible refine Lit0.new _ _ ?_); first | (with_reducible rfl) | (focus (simp only [World.size_alloc]; done))) | with_reducible refine Lit0.drew ?_ | with_reducible refine Lit0.alloc ?_ _ | with_reducible refine LK.out _ ?_)); (refine (HX2.out _ ?_).1; (repeat (first | with_reducible exact BB.out | with_reducible exact Below.refl _ _ | with_reducible refine Below.drew ?_ | with_reducible refine below_al ?_ _))); (have := HL.out; have := HN.out; omega); intro A6 c6 w6 r6 b6; have R6 : Hid (Row w6 w1.heap.size A6 c6 k) := Lib.hid (r6.mono (by have := BB.out.size; have := HZ.out; first | omega | (simp; omega) | (simp only [drew_size, World.size_alloc]; omega))); have LK := Lib.hid (fun g (h : Lit0 _ g) => h.kept b6); have BB : Hid (Below w1.heap.size w1 w6) := Lib.hid (below_then (by repeat (first | with_reducible exact BB.out | with_reducible exact Below.refl _ _ | with_reducible refine Below.drew ?_ | with_reducible refine below_al ?_ _)) b6); clear r6 b6 T1 t1)
    | (have t2 := T2; refine step_append_zero _ (by rfl) (.tmp 11) (.tmp 13) (by rfl) _ v va m vc rfl rfl HM.out ?_ ?_ ?_ ?_; (repeat (first | ((with_reducible refine Lit0.new _ _ ?_); first | (with_reducible rfl) | (focus (simp only [World.size_alloc]; done))) | with_reducible refine Lit0.drew ?_ | with_reducible refine Lit0.alloc ?_ _ | with_reducible refine LK.out _ ?_)); (refine (HX2.out _ ?_).2; (repeat (first | with_reducible exact BB.out | with_reducible exact Below.refl _ _ | with_reducible refine Below.drew ?_ | with_reducible refine below_al ?_ _))); (have := HL.out; have := HM.out; omega); intro A7 c7 w7 r7 b7; have R7 : Hid (Row w7 w1.heap.size A7 c7 v) := Lib.hid (r7.mono (by have := BB.out.size; have := HZ.out; first | omega | (simp; omega) | (simp only [drew_size, World.size_alloc]; omega))); have R6 : Hid (Row w7 w1.heap.size A6 c6 k) := Lib.hid (R6.out.kept (below_then (by repeat (first | with_reducible exact Below.refl _ _ | with_reducible refine Below.drew ?_ | with_reducible refine below_al ?_ _)) b7) (Nat.le_refl _)); have BB : Hid (Below w1.heap.size w1 w7) := Lib.hid (below_then (by repeat (first | with_reducible exact BB.out | with_reducible exact Below.refl _ _ | with_reducible refine Below.drew ?_ | with_reducible refine below_al ?_ _)) b7); obtain ⟨⟨y0, y1, y2, y3⟩, f0, f1, f2, f3⟩ := HD.out w7 BB.out; clear r7 b7 LK T2 t2))
  all_goals
    clear y0 y1 y2 y3 f0 f1 f2 f3
    have H6 := Lib.hid (set_four (e := .slice A6 n c6) (f := .int .i64 s) (g := .bool d) (h := .slice A7 m c7) (HR.out w7 BB.out))
    have K5 := Lib.hid (set_four_kp (Kp.refl (fun j => j ≠ w.heap.size + 1) w7) (w.heap.size + 1) (.slice A6 n c6) (.int .i64 s) (.bool d) (.slice A7 m c7) (by simp))
    have B5 := Lib.hid ((set_four_kp (Kp.of_below (B1.out.trans (BB.out.mono B1.out.size))) (w.heap.size + 1) (.slice A6 n c6) (.int .i64 s) (.bool d) (.slice A7 m c7) (by omega)).below (fun _ hk => hk))
    rename_i hHeld
    clear hHeld
    clear HH HR HC HD HX2
    generalize ((((w7.setCell ⟨w.heap.size + 1, 0, none⟩ (.slice A6 n c6)).setCell ⟨w.heap.size + 1, 1, none⟩ (.int .i64 s)).setCell ⟨w.heap.size + 1, 2, none⟩ (.bool d)).setCell ⟨w.heap.size + 1, 3, none⟩ (.slice A7 m c7)) = w5 at H6 K5 B5 ⊢
    have Q3 : Hid (Row w5 w.heap.size A6 c6 k) := Lib.hid (own_mono (own_kp R6.out K5.out (fun ad ha => by have := (own_in R6.out ad ha).1; have := HZ.out; omega)) B1.out.size)
    have Q4 : Hid (Row w5 w.heap.size A7 c7 v) := Lib.hid (own_mono (own_kp R7.out K5.out (fun ad ha => by have := (own_in R7.out ad ha).1; have := HZ.out; omega)) B1.out.size)
    go_wp2_with fail
    try simp only [Exit.inBlock, Exit.then]
    refine bodyPost_ret (results_cell_row rfl _ _ (w.heap.size + 1) 48 #[.slice A6 n c6, .int .i64 s, .bool d, .slice A7 m c7] (0, 0) _ rfl H6.out Tryz.underlying48 rfl (by kernel_rfl)) rfl ?_
    exact ⟨⟨⟨A6, c6, k⟩, s, d, ⟨A7, c7, v⟩⟩, rfl, by rw [En.val_eq]; simp only [HN.out, HM.out], Q3.out, Q4.out, B5.out⟩
end Go.Proofs.YtmgggddnfeojmaaGreat
