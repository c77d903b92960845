/-
  Walks: a disk made of files.
-/
import Derived.Test.YtjacjafpeajhaaaPgI
namespace Go.Proofs.Ytjacjafpeajhaaa
open Go.RowKit
open Go.Maps

/-- What Of answers. -/
def OpenedP (w : World) (l : List Fl) (r : Int) (ops room : Int) (keep : List Int) (e : Ending) (w' : World) : Prop :=
  Below w.heap.size w w' ∧ ((r ≠ 0 ∧ e = .returned (.tuple #[.pointer none, .int .i64 r])) ∨ (r = 0 ∧ ∃ g p, e = .returned (.tuple #[.pointer (some ⟨g, 0, none⟩), .int .i64 0]) ∧ PSt w' w.heap.size g p ∧ p.vm = ⟨(insAll l).map Fl.rd, room, ops, keep, false⟩))
theorem OpenedP.bad {w w' : World} {l : List Fl} {r ops room : Int} {keep : List Int} (hr : r ≠ 0) (hb : Below w.heap.size w w') : OpenedP w l r ops room keep (.returned (.tuple #[.pointer none, .int .i64 r])) w' := ⟨hb, .inl ⟨hr, rfl⟩⟩
/-- The disk, so far. -/
structure Sofar (w wr : World) (l : List Fl) (i : Nat) (g : Nat) (p : Pk) (m : Vm) : Prop where
  st : PSt wr w.heap.size g p
  fs : p.l.map Pf.rd = (insAll (l.take i)).map Fl.rd
  vm : p.room = m.room ∧ p.left = m.left ∧ p.keep = m.keep ∧ p.down = m.down
  old : ∀ (j : Nat) (q : Fl), j < i → l[j]? = some q → findI q.s (insAll (l.take j)) < 0
  bel : Below w.heap.size w wr
theorem insM_rd' (q : Fl) (l : List Fl) : (insF q l).map Fl.rd = insM q.rd (l.map Fl.rd) := insM_rd q l
theorem Sofar.len {w wr : World} {l : List Fl} {i g : Nat} {p : Pk} {m : Vm} (h : Sofar w wr l i g p m) (hi : i ≤ l.length) : p.l.length = i := by
  have := congrArg List.length h.fs
  rw [List.length_map, List.length_map, insAll_len, List.length_take] at this
  omega
theorem Sofar.dup {w wr : World} {l : List Fl} {i g : Nat} {p : Pk} {m : Vm} (h : Sofar w wr l i g p m) (s : ByteArray) : (findP s p.l = none ∧ findI s (insAll (l.take i)) < 0) ∨ (∃ q, findP s p.l = some q ∧ 0 ≤ findI s (insAll (l.take i))) := by
  rw [findI_md, ← h.fs]
  cases hf : findP s p.l with
  | none =>
    rw [findM_none hf]
    exact .inl ⟨rfl, by simp⟩
  | some q =>
    obtain ⟨j, e, -⟩ := findM_P hf
    rw [e]
    exact .inr ⟨q, rfl, by simp⟩
/-- One file more. -/
theorem Sofar.put {w wr W w' : World} {l : List Fl} {i g : Nat} {p : Pk} {m : Vm} (h : Sofar w wr l i g p m) {q : Fl} {q' : Pf} (hq : l[i]? = some q) (hr : q'.rd = q.rd) (hn : findP q.s p.l = none) (hb : Below wr.heap.size wr W) (hp : PSt w' w.heap.size g (putP p q')) (hd : Does (Two g p.b) (Two g p.b) W w') :
    Sofar w w' l (i + 1) g (putP p q') m := by
  refine ⟨hp, ?_, h.vm, fun j x hj hx => ?_, ?_⟩
  · show (insP q' p.l).map Pf.rd = _
    rw [insP_rd, hr, h.fs, insAll_snoc l i q hq, insM_rd]
  · by_cases e : j = i
    · subst e
      rw [hq] at hx
      injection hx with hx
      subst hx
      rcases h.dup q.s with h1 | ⟨_, h1, _⟩
      · exact h1.2
      · rw [hn] at h1
        cases h1
    · exact h.old j x (by omega) hx
  · have h1 : Below w.heap.size w W := h.bel.trans (hb.mono h.bel.size)
    refine h1.trans (hd.below h1.size (fun k hk => ?_))
    rcases hk with rfl | rfl
    · exact h.st.low
    · exact h.st.inn.mlow

theorem file_made (w : World) (A : Option Addr) (c n : Nat) (L : List Int) (y : Int) (hn : L.length = n) : FileAt (w.alloc (.cells #[.slice A n c, .int .i64 y] 80)) w.heap.size ⟨A, c, L⟩ y := by
  subst hn
  exact heap_alloc_new w _
theorem FileAt.drew {w : World} {h : Nat} {d : Sl} {y : Int} (k : FileAt w h d y) : FileAt w.drew h d y := k

set_option maxRecDepth 100000 in
set_option maxHeartbeats 8000000 in
theorem of_any (A : Option Addr) (l : List Fl) (n c : Nat) (ops room : Int) (K : Option Addr) (keep : List Int) (kn kc : Nat) (w : World) (hn : l.length = n) (h : Lies w A (fvals l)) (hi : Ins w l) (hl : n * 48 ≤ 140737488355328) (hlen : ∀ q ∈ l, q.d.l.length ≤ 140737488355328) (hss : ∀ q ∈ l, q.s.size ≤ 140737488355328)
    (hkn : keep.length = kn) (hk : Ints w K keep) (hkl : kn * 8 ≤ 140737488355328) (hki : ∀ x ∈ keep, -9223372036854775808 ≤ x ∧ x ≤ 9223372036854775807) (ho : -9223372036854775808 ≤ ops ∧ ops ≤ 9223372036854775807) (hm : -9223372036854775808 ≤ room ∧ room ≤ 9223372036854775807) :
    Calls Try.prog 10 #[.slice A n c, .agg #[.int .i64 ops, .int .i64 room, .slice K kn kc]] w (OpenedP w l (ofE l) ops room keep) := by
  obtain ⟨r, hr⟩ : ∃ r, ofE l = r := ⟨_, rfl⟩
  rw [hr]
  have HR := Lib.hid hr
  have HN := Lib.hid hn
  have HP := Lib.hid (fun (w' : World) (hb : Below w.heap.size w w') => h.kept hb)
  have HI := Lib.hid (fun (w' : World) (hb : Below w.heap.size w w') => hi.kept hb)
  have HB := Lib.hid (And.intro hlen hss)
  have HW : Hid (Below w.heap.size w (w.alloc (.cells #[.int .i64 ops, .int .i64 room, .slice K kn kc] 25))) := Lib.hid (below_new _ _)
  have HNW := Lib.hid (fun (W : World) (hb : Below w.heap.size w W) => new_any ops room K keep kn kc W hkn (Lies.kept hk hb) hkl hki ho hm)
  have hz : (w.alloc (.cells #[.int .i64 ops, .int .i64 room, .slice K kn kc] 25)).cell? ⟨w.heap.size, 0, none⟩ = some (.int .i64 ops) ∧ (w.alloc (.cells #[.int .i64 ops, .int .i64 room, .slice K kn kc] 25)).cell? ⟨w.heap.size, 1, none⟩ = some (.int .i64 room) ∧ (w.alloc (.cells #[.int .i64 ops, .int .i64 room, .slice K kn kc] 25)).cell? ⟨w.heap.size, 2, none⟩ = some (.slice K kn kc) := ⟨lit_cell w _ _ 0, lit_cell w _ _ 1, lit_cell w _ _ 2⟩
  have hsz : (w.alloc (.cells #[.int .i64 ops, .int .i64 room, .slice K kn kc] 25)).heap.size = w.heap.size + 1 := by simp
  have HZ := Lib.hid hz
  have HSZ := Lib.hid hsz
  clear hr hn h hi hlen hss hkn hk hkl hki ho hm hz hsz
  go_enter Try.func10, Try.ntmps10
  go_wp2_with fail
  generalize (w.alloc (.cells #[.int .i64 ops, .int .i64 room, .slice K kn kc] 25)) = w1 at HW HZ HSZ ⊢
  have HZZ := Lib.hid (fun (W : World) (hb : Below w1.heap.size w1 W) => (show W.cell? ⟨w.heap.size, 0, none⟩ = some (.int .i64 ops) ∧ W.cell? ⟨w.heap.size, 1, none⟩ = some (.int .i64 room) ∧ W.cell? ⟨w.heap.size, 2, none⟩ = some (.slice K kn kc) from by
    have e : W.heap[w.heap.size]? = w1.heap[w.heap.size]? := hb.block _ (by have := HSZ.out; omega)
    exact ⟨(World.cell?_of_block e).trans HZ.out.1, (World.cell?_of_block e).trans HZ.out.2.1, (World.cell?_of_block e).trans HZ.out.2.2⟩))
  clear HZ HSZ
  go_loopw [15] (fun t15 wr => ∃ k : Nat, k ≤ n ∧ t15 = .int .i64 k ∧ Hid (∀ (j : Nat) (q : Fl), j < k → l[j]? = some q → okName q.s = true) ∧ Hid (Below w1.heap.size w1 wr)) (fun t15 _ => n - (intOf t15).toNat)
  case atStart => exact ⟨0, by omega, rfl, Lib.hid (fun j q hj => by omega), Lib.hid (Below.refl _ _)⟩
  case round =>
    obtain ⟨k, hk, rfl, hf, hb⟩ := hrel
    have HWr : Hid (Below w.heap.size w wr) := Lib.hid (HW.out.trans (hb.out.mono HW.out.size))
    by_cases hlt : k < n
    · have hq := List.getElem?_eq_getElem (l := l) (i := k) (by have := HN.out; omega)
      generalize l[k]'(by have := HN.out; omega) = q at hq
      obtain ⟨ad, rfl, a0, a1, a2⟩ := lies_file (HP.out _ HWr.out) hq
      have HQ := Lib.hid hq
      obtain ⟨qs, ⟨qa, qc, ql⟩, qy⟩ := q
      simp only at a0 a1 a2
      obtain ⟨m, hm⟩ : ∃ m, ql.length = m := ⟨_, rfl⟩
      rw [hm] at a1
      have HNm := Lib.hid (isName_any qs (wr.alloc (.cells #[.string qs, .slice qa m qc, .int .i64 qy] 48)) (by have := HB.out.2 _ (List.mem_of_getElem? hq); simp only at this; omega))
      have HB1 := Lib.hid (hb.out.alloc hb.out.size (.cells #[.string qs, .slice qa m qc, .int .i64 qy] 48))
      clear hq hm
      cases ho : okName qs
      · rw [ho] at HNm
        have HV : Hid (r = 23) := Lib.hid (by rw [← HR.out]; unfold ofE; rw [some_true HQ.out (by simp [ho]), if_pos rfl])
        clear ho
        go_wp2_with (go_at_call 32; refine HNm.out.mono ?_; rintro e w2 ⟨rfl, hw⟩; subst hw)
        go_ret2
        rw [HV.out]
        exact OpenedP.bad (by decide) (HW.out.trans (HB1.out.mono HW.out.size))
      · rw [ho] at HNm
        have HO := Lib.hid ho
        clear ho
        go_wp2_with (go_at_call 32; refine HNm.out.mono ?_; rintro e w2 ⟨rfl, hw⟩; subst hw)
        go_roundw
        case rel => exact ⟨k + 1, by omega, by go_num, Lib.hid (fun j x hj hx => by
          by_cases e : j = k
          · subst e; rw [HQ.out] at hx; injection hx with hx; rw [← hx]; exact HO.out
          · exact hf.out j x (by omega) hx), HB1⟩
        case measure => simp [intOf]; omega
    · obtain rfl : k = n := by omega
      have HOK : Hid (l.any (fun q => !okName q.s) = false) := Lib.hid (some_false (fun j q hq => by rw [hf.out j q (by have := (List.getElem?_eq_some_iff.1 hq).1; have := HN.out; omega) hq]; rfl))
      obtain ⟨z0, z1, z2⟩ := HZZ.out _ hb.out
      clear hf
      go_wp2_with (go_at_call 20; refine (HNW.out _ HWr.out).mono ?_; rintro e w2 ⟨g, p, rfl, hp, hv, hb2⟩; have E2 := Lib.hid (And.intro hp (And.intro hv hb2)); clear hp hv hb2)
      obtain ⟨M, hM⟩ : ∃ M : Vm, M = ⟨[], room, ops, keep, false⟩ := ⟨_, rfl⟩
      have HM := Lib.hid hM
      have HS0 : Hid (Sofar w w2 l 0 g p M) := Lib.hid (by
        have hv := E2.out.2.1
        refine ⟨E2.out.1.mono HWr.out.size, ?_, ?_, fun j q hj => by omega, HWr.out.trans (E2.out.2.2.mono HWr.out.size)⟩
        · exact congrArg Vm.fs hv
        · rw [hM]
          exact ⟨congrArg Vm.room hv, congrArg Vm.left hv, congrArg Vm.keep hv, congrArg Vm.down hv⟩)
      clear hM E2
      go_loopw [28] (fun t28 wr => ∃ (i : Nat) (p : Pk), i ≤ k ∧ t28 = .int .i64 i ∧ Hid (Sofar w wr l i g p M)) (fun t28 _ => k - (intOf t28).toNat)
      case atStart => exact ⟨0, p, by omega, rfl, HS0⟩
      case round =>
        obtain ⟨i, p, hi, rfl, hs⟩ := hrel
        by_cases hlt2 : i < k
        · have hq := List.getElem?_eq_getElem (l := l) (i := i) (by have := HN.out; omega)
          generalize l[i]'(by have := HN.out; omega) = q at hq
          obtain ⟨ad, rfl, a0, a1, a2⟩ := lies_file (HP.out _ hs.out.bel) hq
          have HQ := Lib.hid hq
          have HX := Lib.hid (fun (W : World) (hb : Below w.heap.size w W) => (HI.out W hb) q (List.mem_of_getElem? hq))
          have HL := Lib.hid (And.intro (HB.out.1 q (List.mem_of_getElem? hq)) (HB.out.2 q (List.mem_of_getElem? hq)))
          obtain ⟨qs, ⟨qa, qc, ql⟩, qy⟩ := q
          simp only at a0 a1 a2 HX HL
          obtain ⟨m, hm⟩ : ∃ m, ql.length = m := ⟨_, rfl⟩
          rw [hm] at a1 HX HL
          have HMM := Lib.hid hm
          obtain ⟨W1, hW1⟩ : ∃ W1, wr.alloc (.cells #[.string qs, .slice qa m qc, .int .i64 qy] 48) = W1 := ⟨_, rfl⟩
          have HB1 : Hid (Below wr.heap.size wr W1) := Lib.hid (hW1 ▸ below_new _ _)
          have HS1 : Hid (W1.heap.size = wr.heap.size + 1) := Lib.hid (by rw [← hW1]; simp)
          have HC1 : Hid (W1.cell? ⟨wr.heap.size, 0, none⟩ = some (.string qs) ∧ W1.cell? ⟨wr.heap.size, 1, none⟩ = some (.slice qa m qc) ∧ W1.cell? ⟨wr.heap.size, 2, none⟩ = some (.int .i64 qy)) := Lib.hid (by rw [← hW1]; exact ⟨lit_cell wr _ _ 0, lit_cell wr _ _ 1, lit_cell wr _ _ 2⟩)
          have HP1 := Lib.hid (hs.out.st.kept HB1.out)
          clear hq hm
          go_upto_region 11 with fail
          obtain ⟨b0, b1, b2⟩ := HC1.out
          have k0 := HP1.out.at_.cell.1
          have HLK := fun n => look_run (w := W1.drewN n) HP1.out.inn.map qs (by have := HL.out.2; unfold maxLen; omega)
          rcases hs.out.dup qs with ⟨hf, hd⟩ | ⟨x, hf, hd⟩
          · rw [hf] at HLK
            unfold ptrOf at HLK
            have HF := Lib.hid (And.intro hf hd)
            clear hf hd
            go_quiet (fail)
            obtain ⟨Wq, hWq⟩ : ∃ Wq, W1.drewN nq = Wq := ⟨_, rfl⟩
            have HBq : Hid (Below wr.heap.size wr Wq) := Lib.hid (hWq ▸ below_drewN HB1.out nq)
            have HSq : Hid (Wq.heap.size = wr.heap.size + 1) := Lib.hid (by rw [← hWq]; exact HS1.out)
            have HCq : Hid (Wq.cell? ⟨wr.heap.size, 0, none⟩ = some (.string qs) ∧ Wq.cell? ⟨wr.heap.size, 1, none⟩ = some (.slice qa m qc) ∧ Wq.cell? ⟨wr.heap.size, 2, none⟩ = some (.int .i64 qy)) := Lib.hid (by rw [← hWq]; exact HC1.out)
            rw [hWq]
            clear hWq HLK b0 b1 b2 k0 HB1 HS1 HC1 HP1 hW1
            have HK := Lib.hid (fun (W : World) (e : W.heap[wr.heap.size]? = Wq.heap[wr.heap.size]?) => (show W.cell? ⟨wr.heap.size, 0, none⟩ = some (.string qs) ∧ W.cell? ⟨wr.heap.size, 1, none⟩ = some (.slice qa m qc) ∧ W.cell? ⟨wr.heap.size, 2, none⟩ = some (.int .i64 qy) from ⟨(World.cell?_of_block e).trans HCq.out.1, (World.cell?_of_block e).trans HCq.out.2.1, (World.cell?_of_block e).trans HCq.out.2.2⟩))
            have HKB := Lib.hid (fun (W : World) (hb : Below Wq.heap.size Wq W) => HK.out W (hb.block _ (by have := HSq.out; omega)))
            have HPq := Lib.hid (hs.out.st.kept HBq.out)
            have HCL : Hid (∀ W, Below Wq.heap.size Wq W → Calls Try.prog 34 #[.slice qa m qc] W fun e w' => ∃ A' c', e = .returned (.slice A' m c') ∧ Row w' W.heap.size A' c' ql ∧ Below W.heap.size W w') := Lib.hid (fun W hb => by
              have hx := HX.out W (hs.out.bel.trans ((HBq.out.trans (hb.mono HBq.out.size)).mono hs.out.bel.size))
              refine (clone_any qa ql m qc W hx.len hx.bys HL.out.1).mono ?_
              rintro e w' ⟨A', c', rfl, r1, r2⟩
              exact ⟨A', c', by rw [HMM.out], r1, r2⟩)
            have HPUT : Hid (∀ (A5 : Option Addr) (c5 h : Nat) (X : World), Row X Wq.heap.size A5 c5 ql → FileAt X h ⟨A5, c5, ql⟩ qy → Wq.heap.size ≤ h → Below Wq.heap.size Wq X → Calls Try.prog 33 #[.pointer (some ⟨g, 0, none⟩), .string qs, .pointer (some ⟨h, 0, none⟩)] X fun e w' => e = .returned (.tuple #[]) ∧ Sofar w w' l (i + 1) g (putP p ⟨qs, h, ⟨A5, c5, ql⟩, qy⟩) M ∧ w'.cell? ⟨wr.heap.size, 0, none⟩ = some (.string qs) ∧ w'.cell? ⟨wr.heap.size, 1, none⟩ = some (.slice qa m qc) ∧ w'.cell? ⟨wr.heap.size, 2, none⟩ = some (.int .i64 qy)) := Lib.hid (fun A5 c5 h X hr hf hh hb => by
              have hw0 : w.heap.size ≤ Wq.heap.size := Nat.le_trans hs.out.bel.size HBq.out.size
              have hlen := hs.out.len (by have := HN.out; omega)
              have hbX : Below wr.heap.size wr X := HBq.out.trans (hb.mono HBq.out.size)
              refine (put_any w.heap.size g p ⟨qs, h, ⟨A5, c5, ql⟩, qy⟩ X (HPq.out.kept hb) ⟨hf, Nat.le_trans hw0 hh, hr.mono hw0, (HX.out wr hs.out.bel).byt⟩ (fun x hx => ⟨findP_none HF.out.1 x hx, ?_⟩) (by rw [hlen]; unfold maxLen; omega) (by have := HL.out.2; show qs.size ≤ _; omega) (by have := HL.out.2; show qs.size ≤ _; unfold maxLen; omega)).mono ?_
              · have hfx := HPq.out.inn.file x hx
                refine ⟨fun e => ?_, fun ad ad' h1 h2 e => ?_⟩
                · have := hfx.at_.lt
                  simp only at e
                  omega
                · have h3 := (own_in hr ad h1).1
                  have h4 := (own_in hfx.row ad' h2).2
                  omega
              · rintro e w' ⟨rfl, h1, h2⟩
                refine ⟨rfl, hs.out.put HQ.out rfl HF.out.1 hbX h1 h2, HK.out _ ?_⟩
                rw [h2.block _ (by have := hb.size; have := HSq.out; omega) (fun e => ?_), hb.block _ (by have := HSq.out; omega)]
                have hg := hs.out.st.at_.lt
                have hm := hs.out.st.inn.map.lt
                rcases e with e | e <;> omega)
            go_upto_region 13 with fail
            go_region_held3 (fun W => W.cell? ⟨wr.heap.size, 0, none⟩ = some (.string qs) ∧ W.cell? ⟨wr.heap.size, 1, none⟩ = some (.slice qa m qc) ∧ W.cell? ⟨wr.heap.size, 2, none⟩ = some (.int .i64 qy)) (first | exact C6.out | exact HKB.out _ (by repeat (first | exact Below.refl _ _ | exact B5.out | refine Below.drew ?_ | refine Below.alloc ?_ B5.out.size _)) | go_keep) (first
              | (go_at_call 34; refine (HCL.out _ (by repeat (first | exact Below.refl _ _ | refine Below.drew ?_))).mono ?_; rintro e w5 ⟨A5, c5, rfl, r5, b5⟩; have R5 := Lib.hid r5; have B5 : Hid (Below Wq.heap.size Wq w5) := Lib.hid ((by repeat (first | exact Below.refl _ _ | refine Below.drew ?_) : Below Wq.heap.size Wq _).trans b5); clear r5 b5)
              | (go_at_call 33; refine (HPUT.out A5 c5 w5.heap.size _ (Row.kept (C := w5.heap.size) R5.out (by repeat (first | exact Below.refl _ _ | refine Below.drew ?_ | refine Below.alloc ?_ (Nat.le_refl _) _)) (Nat.le_refl _)) (by first | exact file_made _ _ _ _ _ _ HMM.out | exact (file_made _ _ _ _ _ _ HMM.out).drew) B5.out.size (by repeat (first | exact B5.out | refine Below.drew ?_ | refine Below.alloc ?_ B5.out.size _))).mono ?_; rintro e w6 ⟨rfl, hs6, hc6⟩; have S6 := Lib.hid hs6; have C6 := Lib.hid hc6; clear hs6 hc6))
            all_goals
              go_wp2_with fail
              go_roundw
              case rel => exact ⟨i + 1, _, by omega, by go_num, S6⟩
              case measure => simp [intOf]; omega
          · rw [hf] at HLK
            unfold ptrOf Pf.at_ at HLK
            have HV : Hid (r = 31) := Lib.hid (by rw [← HR.out]; unfold ofE; rw [HOK.out, if_neg (by decide), dupB_true HQ.out hd, if_pos rfl])
            clear hf hd
            go_quiet (fail)
            go_wp2_with fail
            go_ret2
            rw [HV.out]
            exact OpenedP.bad (by decide) (hs.out.bel.trans ((below_drewN HB1.out _).mono hs.out.bel.size))
        · obtain rfl : i = k := by omega
          have HDUP : Hid (dupB l = false) := Lib.hid (dupB_false (fun j q hq => hs.out.old j q (by have := (List.getElem?_eq_some_iff.1 hq).1; have := HN.out; omega) hq))
          obtain ⟨wf, rfl⟩ : ∃ wf, wf = wr := ⟨_, rfl⟩
          go_wp2_with fail
          go_loopw [54] (fun t54 wz => ∃ (j : Nat), j ≤ i ∧ t54 = .int .i64 j ∧ Hid (∀ (x : Nat) (q : Fl), x < j → l[x]? = some q → ¬ (q.y < 0 ∨ (q.d.l.length : Int) < q.y)) ∧ Hid (Below wf.heap.size wf wz)) (fun t54 _ => i - (intOf t54).toNat)
          case atStart => exact ⟨0, by omega, rfl, Lib.hid (fun x q hx => by omega), Lib.hid (Below.refl _ _)⟩
          case round =>
            obtain ⟨j, hj, rfl, hz, hbz⟩ := hrel
            have HBW : Hid (Below w.heap.size w wr) := Lib.hid (hs.out.bel.trans (hbz.out.mono hs.out.bel.size))
            by_cases hlt3 : j < i
            · have hq := List.getElem?_eq_getElem (l := l) (i := j) (by have := HN.out; omega)
              generalize l[j]'(by have := HN.out; omega) = q at hq
              obtain ⟨ad, rfl, a0, a1, a2⟩ := lies_file (HP.out _ HBW.out) hq
              have HQ := Lib.hid hq
              obtain ⟨qs, ⟨qa, qc, ql⟩, qy⟩ := q
              simp only at a0 a1 a2
              obtain ⟨m, hm⟩ : ∃ m, ql.length = m := ⟨_, rfl⟩
              rw [hm] at a1
              have HMM := Lib.hid hm
              have HBN := Lib.hid (hbz.out.alloc hbz.out.size (.cells #[.string qs, .slice qa m qc, .int .i64 qy] 48))
              clear hq hm
              by_cases h1 : qy < 0
              · have HV : Hid (r = 2) := Lib.hid (by rw [← HR.out]; unfold ofE; rw [HOK.out, if_neg (by decide), HDUP.out, if_neg (by decide), some_true HQ.out (by simp; exact .inl h1), if_pos rfl])
                have d1 : decide (qy < 0) = true := by simpa using h1
                go_wp2_with fail
                go_ret2
                rw [HV.out]
                exact OpenedP.bad (by decide) (hs.out.bel.trans (HBN.out.mono hs.out.bel.size))
              · have d1 : decide (qy < 0) = false := by simpa using h1
                by_cases h2 : (m : Int) < qy
                · have HV : Hid (r = 2) := Lib.hid (by rw [← HR.out]; unfold ofE; rw [HOK.out, if_neg (by decide), HDUP.out, if_neg (by decide), some_true HQ.out (by simp; exact .inr (by rw [HMM.out]; exact h2)), if_pos rfl])
                  have d2 : decide ((m : Int) < qy) = true := by simpa using h2
                  go_wp2_with fail
                  go_ret2
                  rw [HV.out]
                  exact OpenedP.bad (by decide) (hs.out.bel.trans (HBN.out.mono hs.out.bel.size))
                · have HZ : Hid (¬ (qy < 0 ∨ (ql.length : Int) < qy)) := Lib.hid (by rw [HMM.out]; exact fun h => h.elim h1 h2)
                  have d2 : decide ((m : Int) < qy) = false := by simpa using h2
                  clear h1 h2
                  go_wp2_with fail
                  go_roundw
                  case rel => exact ⟨j + 1, by omega, by go_num, Lib.hid (fun x q hx hxq => by
                    by_cases e : x = j
                    · subst e; rw [HQ.out] at hxq; injection hxq with hxq; rw [← hxq]; exact HZ.out
                    · exact hz.out x q (by omega) hxq), HBN⟩
                  case measure => simp [intOf]; omega
            · obtain rfl : j = i := by omega
              have HV : Hid (r = 0) := Lib.hid (by
                rw [← HR.out]
                unfold ofE
                rw [HOK.out, if_neg (by decide), HDUP.out, if_neg (by decide), some_false (fun x q hxq => by
                  have := hz.out x q (by have := (List.getElem?_eq_some_iff.1 hxq).1; have := HN.out; omega) hxq
                  simpa using this), if_neg (by decide)])
              go_wp2_with fail
              go_ret2
              rw [HV.out]
              refine ⟨HBW.out, .inr ⟨rfl, g, p, rfl, hs.out.st.kept hbz.out, ?_⟩⟩
              have hfs := hs.out.fs
              rw [List.take_of_length_le (by have := HN.out; omega)] at hfs
              obtain ⟨v1, v2, v3, v4⟩ := hs.out.vm
              unfold Pk.vm
              rw [hfs, v1, v2, v3, v4, HM.out]

end Go.Proofs.Ytjacjafpeajhaaa
