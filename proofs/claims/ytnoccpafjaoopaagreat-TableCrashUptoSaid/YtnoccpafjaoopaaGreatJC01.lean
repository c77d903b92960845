/-
  TableCrash: walks of the law itself. Plans that come in.
-/
import Derived.Test.YtnoccpafjaoopaaGreatJ00
import Derived.Test.YtnoccpafjaoopaaGreatJ01
import Derived.Test.YtnoccpafjaoopaaGreatJ02
import Derived.Test.YtnoccpafjaoopaaGreatJ03
import Derived.Test.YtnoccpafjaoopaaGreatJ04
import Derived.Test.YtnoccpafjaoopaaGreatJ05
import Derived.Test.YtnoccpafjaoopaaGreatJ06
import Derived.Test.YtnoccpafjaoopaaGreatJ07
import Derived.Test.YtnoccpafjaoopaaGreatJ08
import Derived.Test.YtnoccpafjaoopaaGreatJ09
import Derived.Test.YtnoccpafjaoopaaGreatJ10
import Derived.Test.YtnoccpafjaoopaaGreatJ11
import Derived.Test.YtnoccpafjaoopaaGreatJ12
import Derived.Test.YtnoccpafjaoopaaGreatJ13
import Derived.Test.YtnoccpafjaoopaaGreatJ14
import Derived.Test.YtnoccpafjaoopaaGreatJ15
import Derived.Test.YtnoccpafjaoopaaGreatJ16
import Derived.Test.YtnoccpafjaoopaaGreatJ17
import Derived.Test.YtnoccpafjaoopaaGreatJ18
import Derived.Test.YtnoccpafjaoopaaGreatJ19
import Derived.Test.YtnoccpafjaoopaaGreatJ20
import Derived.Test.YtnoccpafjaoopaaGreatJ21
import Derived.Test.YtnoccpafjaoopaaGreatJ22
import Derived.Test.YtnoccpafjaoopaaGreatJ23
import Derived.Test.YtnoccpafjaoopaaGreatJ24
import Derived.Test.YtnoccpafjaoopaaGreatJ25
import Derived.Test.YtnoccpafjaoopaaGreatJC00
set_option linter.unusedSimpArgs false
set_option linter.unusedVariables false
namespace Go.Proofs.YtnoccpafjaoopaaGreat
open Go.RowKit
open Go.Maps
/-- A plan that comes in. -/
structure PlIn (w : World) (ops room : Int) (A : Option Addr) (keep : List Int) (n c : Nat) : Prop where
  len : keep.length = n
  ints : Ints w A keep
  ki : ∀ z ∈ keep, -9223372036854775808 ≤ z ∧ z ≤ 9223372036854775807
  ops : -9223372036854775808 ≤ ops ∧ ops ≤ 9223372036854775807
  room : -9223372036854775808 ≤ room ∧ room ≤ 9223372036854775807
  few : n * 8 ≤ 140737488351232
theorem way_nine (b : Int) : ∃ size : Nat, wrap64 (1 + wrap64 ((IntKind.u64.wrap b).tmod 9)) = (size : Int) ∧ 1 ≤ size ∧ size ≤ 9 := by
  have h0 : 0 ≤ IntKind.u64.wrap b := by simp [IntKind.wrap, IntKind.bits, IntKind.signed]; omega
  have h1 : 0 ≤ (IntKind.u64.wrap b).tmod 9 := Int.tmod_nonneg _ h0
  have h2 : (IntKind.u64.wrap b).tmod 9 < 9 := Int.tmod_lt_of_pos _ (by omega)
  generalize (IntKind.u64.wrap b).tmod 9 = x at h1 h2
  refine ⟨(1 + x).toNat, ?_, by omega, by omega⟩
  unfold wrap64
  omega
theorem ofE_a (a : Option Addr) (c : Nat) : ofE [⟨sA, ⟨a, c, [98]⟩, 1⟩] = 0 := by
  simp [ofE, dupB, insAll, findI, okA]
theorem PlIn.kept {w w' : World} {ops room : Int} {A : Option Addr} {keep : List Int} {n c : Nat} (h : PlIn w ops room A keep n c) (hb : Below w.heap.size w w') : PlIn w' ops room A keep n c := ⟨h.len, Lies.kept h.ints hb, h.ki, h.ops, h.room, h.few⟩
/-- A disk of one file. -/
theorem of_a (w w2 : World) (xb : Nat) (ops room : Int) (K : Option Addr) (keep : List Int) (kn kc : Nat) (hp : PlIn w2 ops room K keep kn kc) (q0 : w2.heap[xb]? = some (.cells #[.int .u8 98] 5 (1, 2))) (q1 : w2.heap[xb + 1]? = some (.cells #[.string sA, .slice (some ⟨xb, 0, none⟩) 1 1, .int .i64 1] 64 (0, 0))) (hb : Below w.heap.size w w2) :
    Calls Tryz.prog 27 #[.slice (some ⟨xb + 1, 0, none⟩) 1 1, .agg #[.int .i64 ops, .int .i64 room, .slice K kn kc]] w2 fun e w' => ∃ (g : Nat) (p : Pk), e = .returned (.tuple #[.pointer (some ⟨g, 0, none⟩), .int .i64 0]) ∧ PSt w' w.heap.size g p ∧ p.vm = diskA ops room keep false ∧ Below w.heap.size w w' := by
  have hl : Lies w2 (some ⟨xb + 1, 0, none⟩) (fvals [⟨sA, ⟨some ⟨xb, 0, none⟩, 1, [98]⟩, 1⟩]) := by
    refine .inr ⟨_, rfl, fun j u hu => ?_⟩
    have e : fvals [⟨sA, ⟨some ⟨xb, 0, none⟩, 1, [98]⟩, 1⟩] = [.string sA, .slice (some ⟨xb, 0, none⟩) 1 1, .int .i64 1] := rfl
    rw [e] at hu
    match j, hu with
    | 0, hu => injection hu with hu; subst hu; simp [World.cell?, Addr.add, q1]
    | 1, hu => injection hu with hu; subst hu; simp [World.cell?, Addr.add, q1]
    | 2, hu => injection hu with hu; subst hu; simp [World.cell?, Addr.add, q1]
    | j + 3, hu => simp at hu
  have hi : FIns w2 [⟨sA, ⟨some ⟨xb, 0, none⟩, 1, [98]⟩, 1⟩] := fun q hq => by
    rw [List.mem_singleton.1 hq]
    exact one_at q0 (by decide)
  refine (of_any (some ⟨xb + 1, 0, none⟩) _ 1 1 ops room K keep kn kc w2 rfl hl hi (by decide) (fun q hq => by rw [List.mem_singleton.1 hq]; show 1 ≤ _; decide) (fun q hq => by rw [List.mem_singleton.1 hq]; show sA.size ≤ _; decide) hp.len hp.ints (by have := hp.few; omega) hp.ki hp.ops hp.room).mono ?_
  rw [ofE_a]
  rintro e w' ⟨b6, (⟨h, -⟩ | ⟨-, g, p, rfl, hps, hv⟩)⟩
  · exact absurd rfl h
  · exact ⟨g, p, rfl, hps.mono hb.size, hv, hb.trans (b6.mono hb.size)⟩
theorem read_b {w : World} {B g : Nat} {p : Pk} {m : Vm} (h : PSt w B g p) (hv : p.vm = m) (hf : Fits m 0) (hr : m.read sA = ([98], 0)) : Calls Tryz.prog 29 #[.pointer (some ⟨g, 0, none⟩), .string sA] w fun e w' => ∃ A c, e = .returned (.tuple #[.slice A 1 c, .int .i64 0]) ∧ Row w' w.heap.size A c [98] ∧ Below w.heap.size w w' :=
  read_vm B g p m sA w ([98], 0) h hv (by decide) hf hr
theorem conv_b {w w' : World} {B : Nat} {A : Option Addr} {c : Nat} (h : Row w B A c [98]) (hb : Below w.heap.size w w') : (convert 42 9 (.slice A 1 c)).run Tryz.prog w' = .ok (.string ⟨#[98]⟩) w' := by
  have := conv_any (Bys.kept h.lies hb) 1 c rfl
  rwa [show strOfNums [98] = ⟨#[98]⟩ by decide +kernel] at this
/-- No table is read, and why. -/
def NoT (D : List Int × Int) (r : Int) : Prop := (D.2 = r ∧ r ≠ 0) ∨ (D.2 = 0 ∧ tableP D.1 = none ∧ r = 11)
theorem open_none {w : World} {B g : Nat} {p : Pk} {m : Vm} {D : List Int × Int} {r : Int} (h : PSt w B g p) (hv : p.vm = m) (hf : Fits m 0) (h40 : ∀ x ∈ m.fs, x.2.1.length ≤ 1099511627776) (hr : m.read sT = D) (hD : NoT D r) :
    Calls Tryz.prog 17 #[.pointer (some ⟨g, 0, none⟩), .string sT] w fun e w' => e = .returned (.tuple #[.pointer none, .int .i64 r]) ∧ Below w.heap.size w w' := by
  have := open_any B g p m sT w h hv (by decide) hf h40
  rw [hr] at this
  refine this.mono ?_
  rintro e w' ⟨hb, h3⟩
  rcases hD with ⟨d1, d2⟩ | ⟨d1, d2, rfl⟩
  · rcases h3 with ⟨-, h4⟩ | ⟨h4, -⟩ | ⟨h4, -⟩
    · exact ⟨by rw [h4, d1], hb⟩
    · exact absurd (d1 ▸ h4) d2
    · exact absurd (d1 ▸ h4) d2
  · rcases h3 with ⟨h4, -⟩ | ⟨-, -, h4⟩ | ⟨-, t, h4, -⟩
    · exact absurd d1 h4
    · exact ⟨h4, hb⟩
    · rw [d2] at h4
      cases h4
set_option maxRecDepth 100000 in
set_option maxHeartbeats 8000000 in
theorem lawCrash (A : Option Addr) (l : List En) (n c : Nat) (ops room : Int) (K : Option Addr) (keep : List Int) (kn kc : Nat) (b : Int) (w : World) (h : LIn w A l n c) (hp : PlIn w ops room K keep kn kc) :
    Calls Tryz.prog 6 #[.slice A n c, .agg #[.int .i64 ops, .int .i64 room, .slice K kn kc], .int .i64 b] w fun e w' => e = .returned (.bool true) ∧ Below w.heap.size w w' := by
  have HH := Lib.hid h
  have HPL := Lib.hid hp
  obtain ⟨od, hod⟩ : ∃ od, decide (OrdL (ers l)) = od := ⟨_, rfl⟩
  have HOD := Lib.hid hod
  have hln := h.len
  have e97 : Hid (({ data := #[97] } : ByteArray) = sA) := Lib.hid rfl
  have e116 : Hid (({ data := #[116] } : ByteArray) = sT) := Lib.hid rfl
  clear hp
  by_cases he : n = 0
  · have d3 : ((n : Int) == 0) = true := by simpa using he
    clear he hln hod h
    go_enter Tryz.func6, Tryz.ntmps6
    go_upto_region 1 with fail
    obtain ⟨wb, hwb⟩ : ∃ wb, w.alloc (.cells #[.int .i64 ops, .int .i64 room, .slice K kn kc] 28) = wb := ⟨_, rfl⟩
    have BX : Hid (Below w.heap.size w wb) := Lib.hid (hwb ▸ below_new w _)
    have HBX : Hid (∀ W, Below wb.heap.size wb W → W.cell? ⟨w.heap.size, 0, none⟩ = some (.int .i64 ops) ∧ W.cell? ⟨w.heap.size, 1, none⟩ = some (.int .i64 room) ∧ W.cell? ⟨w.heap.size, 2, none⟩ = some (.slice K kn kc)) := Lib.hid (fun W hb => by
      have := obj_kept (by rw [← hwb]; exact heap_alloc_new w (.cells #[.int .i64 ops, .int .i64 room, .slice K kn kc] 28)) hb (Nat.le_refl _)
      refine ⟨?_, ?_, ?_⟩ <;> simp [World.cell?, this])
    rw [hwb]
    clear hwb
    go_wp2_with (go_at_call 9; refine (wakes_any _).mono ?_; rintro e w0 ⟨rfl, hb⟩; have B0 := Lib.hid (below_then BX.out hb); clear hb)
    go_ret
    exact ⟨rfl, B0.out⟩
  have d3 : ((n : Int) == 0) = false := by simpa using he
  have hne : ers l ≠ [] := fun e => he (by rw [← hln, ← ers_len, e]; rfl)
  cases od
  · clear he hln hod h hne
    go_enter Tryz.func6, Tryz.ntmps6
    go_upto_region 1 with fail
    obtain ⟨wb, hwb⟩ : ∃ wb, w.alloc (.cells #[.int .i64 ops, .int .i64 room, .slice K kn kc] 28) = wb := ⟨_, rfl⟩
    have BX : Hid (Below w.heap.size w wb) := Lib.hid (hwb ▸ below_new w _)
    have HBX : Hid (∀ W, Below wb.heap.size wb W → W.cell? ⟨w.heap.size, 0, none⟩ = some (.int .i64 ops) ∧ W.cell? ⟨w.heap.size, 1, none⟩ = some (.int .i64 room) ∧ W.cell? ⟨w.heap.size, 2, none⟩ = some (.slice K kn kc)) := Lib.hid (fun W hb => by
      have := obj_kept (by rw [← hwb]; exact heap_alloc_new w (.cells #[.int .i64 ops, .int .i64 room, .slice K kn kc] 28)) hb (Nat.le_refl _)
      refine ⟨?_, ?_, ?_⟩ <;> simp [World.cell?, this])
    rw [hwb]
    clear hwb
    go_wp2_with (first
      | (go_at_call 9; refine (wakes_any _).mono ?_; rintro e w0 ⟨rfl, hb⟩; have B0 := Lib.hid (below_then BX.out hb); clear hb)
      | (go_at_call 14; refine (ordered_in (HH.out.kept B0.out)).mono ?_; rw [HOD.out]; rintro e w5 ⟨rfl, hb⟩; have B5 := Lib.hid (below_then B0.out hb); clear hb))
    go_ret
    exact ⟨rfl, B5.out⟩
  have ho : OrdL (ers l) := of_decide_eq_true hod
  have HO := Lib.hid ho
  have HNE := Lib.hid hne
  obtain ⟨size, hsz, hs1, hs2⟩ := way_nine b
  have HSZ := Lib.hid hsz
  obtain ⟨tb, ht, hW⟩ := whole_file (l := ers l) (size := size) ho hne h.byl hs1 (by omega) (by rw [ers_len, h.len]; have := h.small.1; omega)
  have hF9 := file_few (k := size) (by have := h.bulk; rw [ers_len, h.len]; exact this) ho hne h.byl hs1 (by omega)
  obtain ⟨m1, m2, f, D, hwv, hleft⟩ := crash_left ops room keep hs1 (by omega) hne ho hF9
  have hcutn : ∀ j, j < (fileE (ers l) size).length → tableP ((fileE (ers l) size).take j) = none := fun j hj => by
    obtain ⟨ps, qs, P⟩ := parts_of ho hne h.byl hs1 (by omega)
    exact told_cut P (by rw [ers_len, h.len]; have := h.small.1; omega) hj
  obtain ⟨F, hF⟩ : ∃ F, fileE (ers l) size = F := ⟨_, rfl⟩
  rw [hF] at ht hF9 hleft hcutn
  have HT := Lib.hid ht
  have HW := Lib.hid hW
  have HF9 := Lib.hid hF9
  have HWV := Lib.hid hwv
  have HLF := Lib.hid hleft
  have HCN := Lib.hid hcutn
  clear he hln hod h hne ho hsz hs1 hs2 ht hW hF9 hwv hleft hcutn hF
  go_enter Tryz.func6, Tryz.ntmps6
  go_upto_region 1 with fail
  obtain ⟨wb, hwb⟩ : ∃ wb, w.alloc (.cells #[.int .i64 ops, .int .i64 room, .slice K kn kc] 28) = wb := ⟨_, rfl⟩
  have BX : Hid (Below w.heap.size w wb) := Lib.hid (hwb ▸ below_new w _)
  have HBX : Hid (∀ W, Below wb.heap.size wb W → W.cell? ⟨w.heap.size, 0, none⟩ = some (.int .i64 ops) ∧ W.cell? ⟨w.heap.size, 1, none⟩ = some (.int .i64 room) ∧ W.cell? ⟨w.heap.size, 2, none⟩ = some (.slice K kn kc)) := Lib.hid (fun W hb => by
    have := obj_kept (by rw [← hwb]; exact heap_alloc_new w (.cells #[.int .i64 ops, .int .i64 room, .slice K kn kc] 28)) hb (Nat.le_refl _)
    refine ⟨?_, ?_, ?_⟩ <;> simp [World.cell?, this])
  rw [hwb]
  clear hwb
  go_upto_region 5 with (first
    | (go_at_call 9; refine (wakes_any _).mono ?_; rintro e w0 ⟨rfl, hb⟩; have B0 := Lib.hid (below_then BX.out hb); have Y0 := Lib.hid hb; clear hb)
    | (go_at_call 14; refine (ordered_in (HH.out.kept B0.out)).mono ?_; rw [HOD.out]; rintro e w5 ⟨rfl, hb⟩; have B5 := Lib.hid (below_then B0.out hb); have Y5 := Lib.hid (Y0.out.trans (hb.mono Y0.out.size)); clear hb))
  have k5 := one_convN 98 w5 w5.heap.size rfl
  obtain ⟨hq, hs, hb⟩ := allocs_get [.cells #[.int .u8 98] 5 (1, 2), .cells #[.string sA, .slice (some ⟨w5.heap.size, 0, none⟩) 1 1, .int .i64 1] 64] w5
  have q0 := hq 0 _ rfl
  have q1 := hq 1 _ rfl
  simp only [List.foldl_cons, List.foldl_nil, List.length_cons, List.length_nil, Nat.reduceAdd, Nat.add_zero] at hs hb q0 q1
  obtain ⟨y0, y1, y2⟩ := HBX.out _ (Y5.out.trans (hb.mono Y5.out.size))
  clear hq
  rw [e97.out]
  have HOF := Lib.hid (of_a w _ w5.heap.size ops room K keep kn kc (HPL.out.kept (B5.out.trans (hb.mono B5.out.size))) q0 q1 (B5.out.trans (hb.mono B5.out.size)))
  clear hs hb q0 q1
  go_upto_region 6 with (go_at_call 27; refine HOF.out.mono ?_; rintro e w6 ⟨g, p6, rfl, hps, hv, hb⟩; have E6 : Hid (PSt w6 w.heap.size g p6 ∧ p6.vm = diskA ops room keep false ∧ Below w.heap.size w w6) := Lib.hid ⟨hps, hv, hb⟩; clear hps hv hb)
  clear k5 y0 y1 y2 HOF
  go_upto_region 9 with (first
    | (go_at_call 13; refine (copy_in (HH.out.kept E6.out.2.2)).mono ?_; intro e w7 hc; obtain ⟨l', A', c', he, rfl, hl', -, -, hb⟩ := HH.out.copy hc; have E7 : Hid (ers l' = ers l ∧ LIn w7 A' l' n c' ∧ PSt w7 w.heap.size g p6 ∧ Below w.heap.size w w7) := Lib.hid ⟨he, hl', E6.out.1.kept hb, E6.out.2.2.trans (hb.mono E6.out.2.2.size)⟩; clear hc he hl' hb)
    | (go_at_call 12; rw [HSZ.out, e116.out]; refine (write_in (s := sT) E7.out.2.1 E7.out.2.2.1 E6.out.2.1 (by decide) (fitsA _ _ _ _ 268435456 (by decide)) (by simp [diskA, sumM])).mono ?_; rw [E7.out.1, HWV.out]; rintro e w8 ⟨rfl, p8, s8, v8, d8⟩; have E8 : Hid (PSt w8 w.heap.size g p8 ∧ p8.vm = m1 ∧ Below w.heap.size w w8) := Lib.hid ⟨s8, v8, E7.out.2.2.2.trans (d8.below E7.out.2.2.2.size (fun k hk => (E7.out.2.2.1.owned k hk).1))⟩; clear s8 v8 d8))
  rcases HLF.out.cases with ⟨hD, hf | hf⟩ | ⟨j, hj, hD, hf⟩ | ⟨hD, hf | hf⟩
  all_goals
    subst hD hf
  · have HNO : Hid (NoT ([], 22) 22) := Lib.hid (.inl ⟨rfl, by decide⟩)
    go_wp2_with (first
      | (go_at_call 11; refine (calm_any _).mono ?_; rintro e w9 ⟨rfl, hb⟩; have E9 : Hid (PSt w9 w.heap.size g p8 ∧ Below w.heap.size w w9) := Lib.hid ⟨E8.out.1.kept hb, E8.out.2.2.trans (hb.mono E8.out.2.2.size)⟩; clear hb)
      | (go_at_call 28; refine (revive_vm w.heap.size g p8 m1 m2 (-1) (-1) none [] 0 0 w9 E9.out.1 E8.out.2.1 HLF.out.sane HLF.out.fits1 rfl (.inl rfl) (fun ad h => by cases h) (by decide) (fun x hx => (List.not_mem_nil hx).elim) (by decide) (by decide) HLF.out.rev).mono ?_; rintro e w10 ⟨rfl, p10, s10, v10, d10⟩; have E10 : Hid (PSt w10 w.heap.size g p10 ∧ p10.vm = m2 ∧ Below w.heap.size w w10) := Lib.hid ⟨s10, v10, E9.out.2.trans (d10.below E9.out.2.size (fun k hk => (E9.out.1.owned k hk).1))⟩; clear s10 v10 d10)
      | (go_at_call 29; rw [e97.out]; refine (read_b E10.out.1 E10.out.2.1 HLF.out.fits2 HLF.out.ra).mono ?_; rintro e w11 ⟨Ar, cr, rfl, rr, hb⟩; have R11 := Lib.hid rr; have E11 : Hid (PSt w11 w.heap.size g p10 ∧ Below w.heap.size w w11) := Lib.hid ⟨E10.out.1.kept hb, E10.out.2.2.trans (hb.mono E10.out.2.2.size)⟩; clear rr hb)
      | (go_at_call 17; rw [e116.out]; refine (open_none E11.out.1 E10.out.2.1 HLF.out.fits2 HLF.out.short HLF.out.rt HNO.out).mono ?_; rintro e w12 ⟨rfl, hb⟩; have E12 : Hid (Below w.heap.size w w12) := Lib.hid (E11.out.2.trans (hb.mono E11.out.2.size)); have cv := conv_b R11.out hb; clear hb))
    go_ret
    exact ⟨rfl, E12.out⟩
  · have HNO : Hid (NoT ([], 22) 22) := Lib.hid (.inl ⟨rfl, by decide⟩)
    go_wp2_with (first
      | (go_at_call 11; refine (calm_any _).mono ?_; rintro e w9 ⟨rfl, hb⟩; have E9 : Hid (PSt w9 w.heap.size g p8 ∧ Below w.heap.size w w9) := Lib.hid ⟨E8.out.1.kept hb, E8.out.2.2.trans (hb.mono E8.out.2.2.size)⟩; clear hb)
      | (go_at_call 28; refine (revive_vm w.heap.size g p8 m1 m2 (-1) (-1) none [] 0 0 w9 E9.out.1 E8.out.2.1 HLF.out.sane HLF.out.fits1 rfl (.inl rfl) (fun ad h => by cases h) (by decide) (fun x hx => (List.not_mem_nil hx).elim) (by decide) (by decide) HLF.out.rev).mono ?_; rintro e w10 ⟨rfl, p10, s10, v10, d10⟩; have E10 : Hid (PSt w10 w.heap.size g p10 ∧ p10.vm = m2 ∧ Below w.heap.size w w10) := Lib.hid ⟨s10, v10, E9.out.2.trans (d10.below E9.out.2.size (fun k hk => (E9.out.1.owned k hk).1))⟩; clear s10 v10 d10)
      | (go_at_call 29; rw [e97.out]; refine (read_b E10.out.1 E10.out.2.1 HLF.out.fits2 HLF.out.ra).mono ?_; rintro e w11 ⟨Ar, cr, rfl, rr, hb⟩; have R11 := Lib.hid rr; have E11 : Hid (PSt w11 w.heap.size g p10 ∧ Below w.heap.size w w11) := Lib.hid ⟨E10.out.1.kept hb, E10.out.2.2.trans (hb.mono E10.out.2.2.size)⟩; clear rr hb)
      | (go_at_call 17; rw [e116.out]; refine (open_none E11.out.1 E10.out.2.1 HLF.out.fits2 HLF.out.short HLF.out.rt HNO.out).mono ?_; rintro e w12 ⟨rfl, hb⟩; have E12 : Hid (Below w.heap.size w w12) := Lib.hid (E11.out.2.trans (hb.mono E11.out.2.size)); have cv := conv_b R11.out hb; clear hb))
    go_ret
    exact ⟨rfl, E12.out⟩
  · have HNO : Hid (NoT (F.take j, 0) 11) := Lib.hid (.inr ⟨rfl, HCN.out j hj, rfl⟩)
    clear hj
    go_wp2_with (first
      | (go_at_call 11; refine (calm_any _).mono ?_; rintro e w9 ⟨rfl, hb⟩; have E9 : Hid (PSt w9 w.heap.size g p8 ∧ Below w.heap.size w w9) := Lib.hid ⟨E8.out.1.kept hb, E8.out.2.2.trans (hb.mono E8.out.2.2.size)⟩; clear hb)
      | (go_at_call 28; refine (revive_vm w.heap.size g p8 m1 m2 (-1) (-1) none [] 0 0 w9 E9.out.1 E8.out.2.1 HLF.out.sane HLF.out.fits1 rfl (.inl rfl) (fun ad h => by cases h) (by decide) (fun x hx => (List.not_mem_nil hx).elim) (by decide) (by decide) HLF.out.rev).mono ?_; rintro e w10 ⟨rfl, p10, s10, v10, d10⟩; have E10 : Hid (PSt w10 w.heap.size g p10 ∧ p10.vm = m2 ∧ Below w.heap.size w w10) := Lib.hid ⟨s10, v10, E9.out.2.trans (d10.below E9.out.2.size (fun k hk => (E9.out.1.owned k hk).1))⟩; clear s10 v10 d10)
      | (go_at_call 29; rw [e97.out]; refine (read_b E10.out.1 E10.out.2.1 HLF.out.fits2 HLF.out.ra).mono ?_; rintro e w11 ⟨Ar, cr, rfl, rr, hb⟩; have R11 := Lib.hid rr; have E11 : Hid (PSt w11 w.heap.size g p10 ∧ Below w.heap.size w w11) := Lib.hid ⟨E10.out.1.kept hb, E10.out.2.2.trans (hb.mono E10.out.2.2.size)⟩; clear rr hb)
      | (go_at_call 17; rw [e116.out]; refine (open_none E11.out.1 E10.out.2.1 HLF.out.fits2 HLF.out.short HLF.out.rt HNO.out).mono ?_; rintro e w12 ⟨rfl, hb⟩; have E12 : Hid (Below w.heap.size w w12) := Lib.hid (E11.out.2.trans (hb.mono E11.out.2.size)); have cv := conv_b R11.out hb; clear hb))
    go_ret
    exact ⟨rfl, E12.out⟩
  all_goals
    go_wp2_with (first
      | (go_at_call 11; refine (calm_any _).mono ?_; rintro e w9 ⟨rfl, hb⟩; have E9 : Hid (PSt w9 w.heap.size g p8 ∧ Below w.heap.size w w9) := Lib.hid ⟨E8.out.1.kept hb, E8.out.2.2.trans (hb.mono E8.out.2.2.size)⟩; clear hb)
      | (go_at_call 28; refine (revive_vm w.heap.size g p8 m1 m2 (-1) (-1) none [] 0 0 w9 E9.out.1 E8.out.2.1 HLF.out.sane HLF.out.fits1 rfl (.inl rfl) (fun ad h => by cases h) (by decide) (fun x hx => (List.not_mem_nil hx).elim) (by decide) (by decide) HLF.out.rev).mono ?_; rintro e w10 ⟨rfl, p10, s10, v10, d10⟩; have E10 : Hid (PSt w10 w.heap.size g p10 ∧ p10.vm = m2 ∧ Below w.heap.size w w10) := Lib.hid ⟨s10, v10, E9.out.2.trans (d10.below E9.out.2.size (fun k hk => (E9.out.1.owned k hk).1))⟩; clear s10 v10 d10)
      | (go_at_call 29; rw [e97.out]; refine (read_b E10.out.1 E10.out.2.1 HLF.out.fits2 HLF.out.ra).mono ?_; rintro e w11 ⟨Ar, cr, rfl, rr, hb⟩; have R11 := Lib.hid rr; have E11 : Hid (PSt w11 w.heap.size g p10 ∧ Below w.heap.size w w11) := Lib.hid ⟨E10.out.1.kept hb, E10.out.2.2.trans (hb.mono E10.out.2.2.size)⟩; clear rr hb)
      | (go_at_call 17; rw [e116.out]; refine (show Calls _ _ _ _ (OpenE w11 (F, 0)) from by have := open_any w.heap.size g p10 m2 sT w11 E11.out.1 E10.out.2.1 (by decide) HLF.out.fits2 HLF.out.short; rwa [HLF.out.rt] at this).mono ?_; rintro e w12 ⟨hb, h12⟩; obtain ⟨t, hts, rfl, hta, hcnt, hmb⟩ := opened_whole HT.out HW.out h12; have E12 : Hid (t.tb = tb ∧ TabAt w12 t ∧ w11.heap.size ≤ t.mb ∧ Below w.heap.size w w12) := Lib.hid ⟨hts, hta, hmb, E11.out.2.trans (hb.mono E11.out.2.size)⟩; have cv := conv_b R11.out hb; clear hb h12 hts hta hcnt hmb)
      | (go_at_call 18; refine (all_whole (HH.out.kept E12.out.2.2.2) E12.out.2.1 (by rw [E12.out.1]; exact HW.out) HO.out.good).mono ?_; rintro e w13 ⟨l6, A6, c6, he6, rfl, r6, m6, t6, tw6⟩; have E13 : Hid (Below w.heap.size w w13 ∧ ers l6 = ers l ∧ Lies w13 A6 (evals l6) ∧ EIns w13 l6) := Lib.hid ⟨E12.out.2.2.2.trans (t6.below (by have := E11.out.2.size; have := E12.out.2.2.1; omega) E12.out.2.2.2.size), he6, r6.lies, m6.ins (by rw [he6]; exact HH.out.byl)⟩; clear he6 r6 m6 t6 tw6 cv)
      | (go_at_call 20; refine (refSame_any A6 A l6 l n n c6 c w13 (by rw [← ers_len, E13.out.2.1, ers_len, HH.out.len]) HH.out.len E13.out.2.2.1 (HH.out.kept E13.out.1).lies E13.out.2.2.2 (HH.out.kept E13.out.1).ins (by have := HH.out.small.1; omega)).mono ?_; rw [decide_eq_true E13.out.2.1]; rintro e w14 ⟨rfl, hb⟩; have E14 : Hid (Below w.heap.size w w14) := Lib.hid (E13.out.1.trans (hb.mono E13.out.1.size)); clear hb))
    go_ret
    exact ⟨rfl, E14.out⟩
end Go.Proofs.YtnoccpafjaoopaaGreat
namespace Go.Proofs.YtnoccpafjaoopaaGreat
open Go.ChangeShapes Go.WideShapes Go.ChangeAt Go.RowKit
theorem cells26 : Tryz.prog.cellsOf 26 = 1 := by kernel_rfl
theorem cells28 : Tryz.prog.cellsOf 28 = 3 := by kernel_rfl
theorem bytesInt : Tryz.prog.bytesOf 3 = 8 := by kernel_rfl
section
variable {H : Type} {enc : TypeId × Value → H} {W : World} {fuel : Nat} {cs : List Value} {x : DataW H × List MemPlace}
/-- Numbers, read. -/
theorem open_keep (h : DataW.trod enc Tryz.prog W 0 (fun _ => true) true fuel 26 cs = some x) :
    ∃ (A : Option Addr) (n c : Nat) (keep : List Int), cs = [.slice A n c] ∧ keep.length = n ∧ Ints W A keep ∧ (∀ z ∈ keep, -9223372036854775808 ≤ z ∧ z ≤ 9223372036854775807) ∧ n + 1 ≤ Rows.uptoBulk x.1 ∧ ((∀ n ∈ x.1.weights Tryz.prog 26, n ≤ reachBytes) → n * 8 ≤ 140737488351232) := by
  rcases open_ints Tryz.underlying26 Tryz.underlying3 (by kernel_rfl) h with ⟨hc0, hx⟩ | ⟨y, l, d, zs, hc0, _, hl', hm', hz, hxx, hcell, hwz⟩
  · exact ⟨none, 0, 0, [], hc0, rfl, .inl rfl, fun z hz => (List.not_mem_nil hz).elim, bulk_one _, fun _ => by omega⟩
  · simp only [if_true] at hz
    refine ⟨some y, l, d, zs.take l, hc0, by simp; omega, .inr ⟨y, rfl, fun j u hu => ?_⟩, fun z hz2 => ?_, ?_, fun hw => ?_⟩
    · rw [List.getElem?_map, Option.map_eq_some_iff] at hu
      obtain ⟨v, hv, rfl⟩ := hu
      rw [List.getElem?_take] at hv
      split at hv
      · have hj := (List.getElem?_eq_some_iff.1 hv).1
        rw [hcell j hj, List.getD_eq_getElem?_getD, hv]
        rfl
      · cases hv
    · have := hwz z (List.mem_of_mem_take hz2)
      simpa [Lit.wf, IntKind.min, IntKind.max, IntKind.signed, IntKind.bits] using this
    · rw [hxx]
      have h2 := bulk_length (H := H) (lits .i64 (zs.take l))
      simp only [lits, List.length_map, List.length_take] at h2
      simp only [Rows.uptoBulk, lits]
      omega
    · have := hw (((lits (H := H) .i64 (zs.take l)).length + (lits (H := H) .i64 (zs.drop l)).length) * Tryz.prog.bytesOf 3) (by
        rw [hxx]
        simp only [DataW.weights, Tryz.underlying26]
        exact List.mem_cons_self)
      rw [bytesInt] at this
      simp only [lits, List.length_map, reachBytes, List.length_take, List.length_drop] at this
      omega
set_option maxRecDepth 100000 in
theorem open_plan_cs (h : DataW.trod enc Tryz.prog W 0 (fun _ => true) true fuel 28 cs = some x) :
    ∃ ops room A keep n c, cs = [.int .i64 ops, .int .i64 room, .slice A n c] ∧ n + 1 ≤ Rows.uptoBulk x.1 ∧ ((∀ n ∈ x.1.weights Tryz.prog 28, n ≤ reachBytes) ∨ n * 8 ≤ 140737488351232 → PlIn W ops room A keep n c) := by
  obtain ⟨xs, n, -, rfl, hlen, hxl, hf⟩ := DataW.trod_struct Tryz.underlying28 h
  rw [cells28] at hlen
  have h0 : DataW.trod enc Tryz.prog W 0 (fun _ => true) true n 3 ((cs.drop 0).take (Tryz.prog.cellsOf 3)) = xs[0]? := hf 0 _ rfl
  have h1 : DataW.trod enc Tryz.prog W 0 (fun _ => true) true n 3 ((cs.drop 1).take (Tryz.prog.cellsOf 3)) = xs[1]? := hf 1 _ rfl
  have h2 : DataW.trod enc Tryz.prog W 0 (fun _ => true) true n 26 ((cs.drop 2).take (Tryz.prog.cellsOf 26)) = xs[2]? := hf 2 _ rfl
  rw [cells3] at h0 h1
  rw [cells26] at h2
  match cs, hlen, xs, hxl with
  | [u, v, t], _, [y0, y1, y2], _ =>
    obtain ⟨a, e1, e2⟩ := open_num (h0.trans rfl)
    obtain ⟨b, f1, f2⟩ := open_num (h1.trans rfl)
    obtain ⟨A, kn, c, keep, g1, g2, g3, g4, g5, g6⟩ := open_keep (h2.trans rfl)
    have a1 : u = .int .i64 a := by simpa using e1
    have a2 : v = .int .i64 b := by simpa using f1
    have a3 : t = .slice A kn c := by simpa using g1
    subst a1
    subst a2
    subst a3
    refine ⟨a, b, A, keep, kn, c, rfl, ?_, fun hw => ⟨g2, g3, g4, e2, f2, hw.elim (fun hw => g6 (fun m hm => hw m ?_)) id⟩⟩
    · simp only [Rows.uptoBulk, Rows.uptoBulkAll, List.map_cons, List.map_nil] at g5 ⊢
      omega
    · simp only [DataW.weights, Tryz.underlying28]
      exact DataW.weights_mem_each (j := 2) (t := 26) rfl rfl m hm
end
set_option maxRecDepth 100000 in
theorem open_plan_val {H : Type} {enc : TypeId × Value → H} {W : World} {fuel : Nat} {v : Value} {x : DataW H × List MemPlace} (h : DataW.trod enc Tryz.prog W 0 (fun _ => true) true fuel 28 v.cells.toList = some x) {base : Nat} (hval : Value.okWide Tryz.prog W .any base 28 v) :
    ∃ (ops room : Int) (A : Option Addr) (keep : List Int) (n c : Nat), v = Value.agg #[.int .i64 ops, .int .i64 room, .slice A n c] ∧ n + 1 ≤ Rows.uptoBulk x.1 ∧ ((∀ n ∈ x.1.weights Tryz.prog 28, n ≤ reachBytes) ∨ n * 8 ≤ 140737488351232 → PlIn W ops room A keep n c) := by
  obtain ⟨cs, rfl, -⟩ := okWide_struct Tryz.underlying28 hval
  obtain ⟨ops, room, A, keep, n, c, e, h1, h2⟩ := open_plan_cs h
  refine ⟨ops, room, A, keep, n, c, ?_, h1, h2⟩
  have e2 : cs.toList = [.int .i64 ops, .int .i64 room, .slice A n c] := by simpa [Value.cells] using e
  rw [show cs = cs.toList.toArray by simp, e2]
set_option maxRecDepth 100000 in
set_option maxRecDepth 100000 in
theorem open_plan_up {H : Type} {enc : TypeId × Value → H} {W : World} {fuel : Nat} {v : Value} {x : DataW H × List MemPlace} (h : DataW.trod enc Tryz.prog W 0 (fun _ => true) true fuel 28 v.cells.toList = some x) (hb : Rows.uptoBulk x.1 ≤ 1048576) {base : Nat} (hval : Value.okWide Tryz.prog W .any base 28 v) :
    ∃ (ops room : Int) (A : Option Addr) (n c : Nat), v = Value.agg #[.int .i64 ops, .int .i64 room, .slice A n c] ∧ ∃ keep, PlIn W ops room A keep n c := by
  obtain ⟨ops, room, A, keep, n, c, e, h1, h2⟩ := open_plan_val h hval
  exact ⟨ops, room, A, n, c, e, keep, h2 (.inr (by omega))⟩
end Go.Proofs.YtnoccpafjaoopaaGreat
