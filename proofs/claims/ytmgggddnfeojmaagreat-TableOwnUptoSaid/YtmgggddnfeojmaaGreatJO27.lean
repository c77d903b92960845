/-
  TableOwn: the walk of the law itself.
-/
import Derived.Test.YtmgggddnfeojmaaGreatJO25
import Derived.Test.YtmgggddnfeojmaaGreatJO26
set_option linter.unusedSimpArgs false
set_option linter.unusedVariables false
namespace Go.Proofs.YtmgggddnfeojmaaGreat
open Go.RowKit
open Go.Maps
theorem made_does {S S' : Nat → Prop} {w w' : World} {B : Nat} {l : List En} (h : EMades w B l) (hd : Does S S' w w') (hS : ∀ k, S k → k < B) : EMades w' B l := fun q hq =>
  ⟨own_block (h q hq).1 (fun ad e => hd.block _ (own_in (h q hq).1 ad e).2 (fun hs => by have := hS _ hs; have := (own_in (h q hq).1 ad e).1; omega)), own_block (h q hq).2 (fun ad e => hd.block _ (own_in (h q hq).2 ad e).2 (fun hs => by have := hS _ hs; have := (own_in (h q hq).2 ad e).1; omega))⟩
theorem erow_does {S S' : Nat → Prop} {w w' : World} {B c : Nat} {A : Option Addr} {l : List En} (h : Erow w B A c l) (hd : Does S S' w w') (hS : ∀ k, S k → k < B) : Erow w' B A c l :=
  own_block h (fun ad e => hd.block _ (own_in h ad e).2 (fun hs => by have := hS _ hs; have := (own_in h ad e).1; omega))
/-- All from a key on of a whole table. -/
theorem all_low (l : List En) (t : Tm) (A : Option Addr) (Lo : List Int) (n c : Nat) (w : World) (ht : TabAt w t) (hW : Whole (ers l) t.tb) (hl : l.length ≤ 1048576) (hi : In w A Lo n c) (n9 : n ≤ 1048576) :
    Calls Tryz.prog 18 #[.pointer (some ⟨t.b, 0, none⟩), .slice A n c, .slice none 0 0] w fun e w' => ∃ (l8 : List En) (A8 : Option Addr) (z8 c8 : Nat), l8.length = z8 ∧ e = .returned (.tuple #[.slice A8 z8 c8, .int .i64 0]) ∧ Erow w' w.heap.size A8 c8 l8 ∧ EMades w' w.heap.size l8 ∧ Tw t.mb w w' ∧ TabW (fun g => SlB A8 g ∨ EnB l8 g) w' t := by
  have hfew := hW.few
  rw [ers_len] at hfew
  have hr := hW.range Lo []
  have hlen : (rangeE (ers l) Lo []).length ≤ l.length := by
    have := List.length_filter_le (inE Lo []) (ers l)
    rw [ers_len] at this
    exact this
  refine (all_any t A none Lo [] n 0 c 0 w ht hi (in_nil w) (by omega) (by decide) (by simp only [Tm.tb, List.length_map] at hfew; omega) (by rw [hr]; simp only; omega)).mono ?_
  rintro e w' ⟨l', A', c', -, rfl, h3, h4, h5, h6⟩
  rw [hr]
  exact ⟨l', A', l'.length, c', rfl, rfl, h3, h4, h5, h6⟩
set_option maxRecDepth 100000 in
set_option maxHeartbeats 16000000 in
theorem lawOwn (A : Option Addr) (l : List En) (n c : Nat) (kx lx hx : Sl) (s : Int) (w : World) (h : LIn w A l n c) (hl : In w lx.a lx.l lx.l.length lx.c) (l9 : lx.l.length ≤ 1048576) :
    Calls Tryz.prog 8 #[.slice A n c, .agg #[kx.val, lx.val, hx.val, .int .i64 s]] w fun e w' => e = .returned (.bool true) ∧ Below w.heap.size w w' := by
  have HH := Lib.hid h
  have HKL := Lib.hid hl
  obtain ⟨od, hod⟩ : ∃ od, decide (OrdL (ers l)) = od := ⟨_, rfl⟩
  have HOD := Lib.hid hod
  have hln := h.len
  have e116 : Hid (({ data := #[116] } : ByteArray) = sT) := Lib.hid rfl
  obtain ⟨kn, hkn⟩ : ∃ q, kx.l.length = q := ⟨_, rfl⟩
  obtain ⟨ln, hlnn⟩ : ∃ q, lx.l.length = q := ⟨_, rfl⟩
  obtain ⟨hn, hhn⟩ : ∃ q, hx.l.length = q := ⟨_, rfl⟩
  have HK9 : Hid (ln ≤ 1048576) := Lib.hid (by omega)
  have HIX : Hid (∀ W, Below w.heap.size w W → In W lx.a lx.l ln lx.c) := Lib.hid (fun W hb => by rw [← hlnn]; exact HKL.out.kept hb)
  unfold Sl.val
  rw [hkn, hlnn, hhn]
  clear hl l9 hkn hlnn hhn
  by_cases he : n = 0
  · have d3 : ((n : Int) == 0) = true := by simpa using he
    clear he hln hod h
    go_enter Tryz.func8, Tryz.ntmps8
    go_upto_region 1 with fail
    obtain ⟨wb, hwb⟩ : ∃ wb, w.alloc (.cells #[.slice kx.a kn kx.c, .slice lx.a ln lx.c, .slice hx.a hn hx.c, .int .i64 s] 51) = wb := ⟨_, rfl⟩
    have BX : Hid (Below w.heap.size w wb) := Lib.hid (hwb ▸ below_new w _)
    have HBX : Hid (∀ W, Below wb.heap.size wb W → W.cell? ⟨w.heap.size, 1, none⟩ = some (.slice lx.a ln lx.c)) := Lib.hid (fun W hb => by
      have := obj_kept (by rw [← hwb]; exact heap_alloc_new w (.cells #[.slice kx.a kn kx.c, .slice lx.a ln lx.c, .slice hx.a hn hx.c, .int .i64 s] 51)) hb (Nat.le_refl _)
      simp [World.cell?, this])
    rw [hwb]
    clear hwb
    go_wp2_with (go_at_call 9; refine (wakes_any _).mono ?_; rintro e w0 ⟨rfl, hb⟩; have B0 := Lib.hid (below_then BX.out hb); clear hb)
    go_ret
    exact ⟨rfl, B0.out⟩
  have d3 : ((n : Int) == 0) = false := by simpa using he
  have hne : ers l ≠ [] := fun e => he (by rw [← hln, ← ers_len, e]; rfl)
  cases od
  · clear he hln hod h hne
    go_enter Tryz.func8, Tryz.ntmps8
    go_upto_region 1 with fail
    obtain ⟨wb, hwb⟩ : ∃ wb, w.alloc (.cells #[.slice kx.a kn kx.c, .slice lx.a ln lx.c, .slice hx.a hn hx.c, .int .i64 s] 51) = wb := ⟨_, rfl⟩
    have BX : Hid (Below w.heap.size w wb) := Lib.hid (hwb ▸ below_new w _)
    have HBX : Hid (∀ W, Below wb.heap.size wb W → W.cell? ⟨w.heap.size, 1, none⟩ = some (.slice lx.a ln lx.c)) := Lib.hid (fun W hb => by
      have := obj_kept (by rw [← hwb]; exact heap_alloc_new w (.cells #[.slice kx.a kn kx.c, .slice lx.a ln lx.c, .slice hx.a hn hx.c, .int .i64 s] 51)) hb (Nat.le_refl _)
      simp [World.cell?, this])
    rw [hwb]
    clear hwb
    go_wp2_with (first
      | (go_at_call 9; refine (wakes_any _).mono ?_; rintro e w0 ⟨rfl, hb⟩; have B0 := Lib.hid (below_then BX.out hb); clear hb)
      | (go_at_call 14; refine (ordered_in (HH.out.kept B0.out)).mono ?_; rw [HOD.out]; rintro e w5 ⟨rfl, hb⟩; have B5 := Lib.hid (below_then B0.out hb); clear hb))
    go_ret
    exact ⟨rfl, B5.out⟩
  have ho : OrdL (ers l) := of_decide_eq_true hod
  have HO := Lib.hid ho
  have HNE := Lib.hid hne
  have HGD := Lib.hid ho.good
  have W1 := write_calm (s := sT) (L := ers l) (k := 2) okT (by decide) (by decide) hne ho
  obtain ⟨tb, ht, hW⟩ := whole_file (l := ers l) (size := 2) ho hne h.byl (by decide) (by decide) (by rw [ers_len, h.len]; have := h.small.1; omega)
  have hF9 := file_few (k := 2) (by have := h.bulk; rw [ers_len, h.len]; exact this) ho hne h.byl (by decide) (by decide)
  obtain ⟨F, hF⟩ : ∃ F, fileE (ers l) 2 = F := ⟨_, rfl⟩
  rw [hF] at ht hF9 W1
  have HW : Hid (writeV calmV sT (ers l) 2 = (loneV sT F F.length, 0)) := Lib.hid W1
  have HT := Lib.hid ht
  have HWH := Lib.hid hW
  have HF9 := Lib.hid hF9
  have HR1 := Lib.hid (read_lone (s := sT) F F.length okT)
  obtain ⟨z, hz⟩ : ∃ z, n = z + 1 := ⟨n - 1, by omega⟩
  have HZN := Lib.hid hz
  have hx0 := List.getElem?_eq_getElem (l := l) (i := 0) (by omega)
  generalize l[0]'(by omega) = x0 at hx0
  have hxz := List.getElem?_eq_getElem (l := l) (i := z) (by omega)
  generalize l[z]'(by omega) = xz at hxz
  obtain ⟨ad, rfl, -⟩ := lies_entry h.lies hx0
  have HX0 := Lib.hid hx0
  have HXZ : Hid (l[z]? = some xz) := Lib.hid hxz
  obtain ⟨k0, hk0⟩ : ∃ q, x0.k.l.length = q := ⟨_, rfl⟩
  obtain ⟨kz, hkz⟩ : ∃ q, xz.k.l.length = q := ⟨_, rfl⟩
  have HK0 := Lib.hid (And.intro hk0 hkz)
  obtain ⟨cz, hcz⟩ : ∃ q, cmpL x0.k.l xz.k.l = q := ⟨_, rfl⟩
  have HCZ : Hid (cmpL x0.k.l xz.k.l = cz ∧ cz ≤ 0) := Lib.hid ⟨hcz, by
    rw [← hcz]
    rcases Nat.eq_zero_or_pos z with e | e
    · subst e
      rw [hx0] at hxz
      injection hxz with hxz
      rw [hxz, cmpL_self]
      omega
    · have := ordL_sorted ho e (ers_get hx0) (ers_get hxz)
      rcases ordE_lt.1 this with q | ⟨q, -⟩
      · have q' : cmpL x0.k.l xz.k.l = -1 := q
        omega
      · have q' : x0.k.l = xz.k.l := q
        rw [q', cmpL_self]
        omega⟩
  have hn209 : n ≤ 209715 := h.small.1
  clear hk0 hkz hx0 hxz hz hcz
  clear hod hln h hne hF ht hW hF9 W1 he ho
  refine (callsIn_wide (n := 12)).1 ?_
  refine callsIn_of_wp_marks Tryz.func8 rfl trivial ?_ rfl
  simp only [Tryz.ntmps8, List.size_toArray, List.length_cons, List.length_nil, Nat.reduceAdd, Nat.reduceSub, Array.replicate_succ, Array.replicate_zero, List.push_toArray, List.append_toArray, List.nil_append, List.cons_append]
  refine wpIn_wide.2 ?_
  go_upto_region 1 with fail
  obtain ⟨wb, hwb⟩ : ∃ wb, w.alloc (.cells #[.slice kx.a kn kx.c, .slice lx.a ln lx.c, .slice hx.a hn hx.c, .int .i64 s] 51) = wb := ⟨_, rfl⟩
  have BX : Hid (Below w.heap.size w wb) := Lib.hid (hwb ▸ below_new w _)
  have HBX : Hid (∀ W, Below wb.heap.size wb W → W.cell? ⟨w.heap.size, 1, none⟩ = some (.slice lx.a ln lx.c)) := Lib.hid (fun W hb => by
    have := obj_kept (by rw [← hwb]; exact heap_alloc_new w (.cells #[.slice kx.a kn kx.c, .slice lx.a ln lx.c, .slice hx.a hn hx.c, .int .i64 s] 51)) hb (Nat.le_refl _)
    simp [World.cell?, this])
  rw [hwb]
  clear hwb
  go_upto_region 9 with (first
    | (go_at_call 9; refine (wakes_any _).mono ?_; rintro e w0 ⟨rfl, hb⟩; have B0 := Lib.hid (below_then BX.out hb); have Y0 := Lib.hid hb; clear hb)
    | (go_at_call 14; refine (ordered_in (HH.out.kept B0.out)).mono ?_; rw [HOD.out]; rintro e w5 ⟨rfl, hb⟩; have B5 := Lib.hid (below_then B0.out hb); have Y5 := Lib.hid (Y0.out.trans (hb.mono Y0.out.size)); clear hb)
    | (go_at_call 11; refine (calm_any _).mono ?_; rintro e w1 ⟨rfl, hb⟩; have B1 := Lib.hid (below_then B5.out hb); have Y1 := Lib.hid (Y5.out.trans (hb.mono Y5.out.size)); clear hb)
    | (go_at_call 10; refine (new_calm w1).mono ?_; rintro e w2 ⟨g, p2, rfl, hps, hv, hb⟩; have E2 : Hid (PSt w2 w.heap.size g p2 ∧ p2.vm = calmV ∧ Below w.heap.size w w2) := Lib.hid ⟨hps.mono B1.out.size, hv, B1.out.trans (hb.mono B1.out.size)⟩; have Y2 := Lib.hid (Y1.out.trans (hb.mono Y1.out.size)); have HPO : Hid (∀ k, p2.own g k → wb.heap.size ≤ k) := Lib.hid (fun k hk => by have := (hps.owned k hk).1; have := Y1.out.size; omega); clear hps hv hb)
    | (go_at_call 13; refine (copy_in (HH.out.kept E2.out.2.2)).mono ?_; intro e w3 hc; obtain ⟨l', A', c', he, rfl, hl', hm', hr', hb⟩ := HH.out.copy hc; have E3 : Hid (ers l' = ers l ∧ LIn w3 A' l' n c' ∧ PSt w3 w.heap.size g p2 ∧ Below w.heap.size w w3 ∧ EMades w3 w2.heap.size l' ∧ Erow w3 w2.heap.size A' c' l' ∧ (∀ k, p2.own g k → k < w2.heap.size) ∧ Below wb.heap.size wb w3) := Lib.hid ⟨he, hl', E2.out.1.kept hb, E2.out.2.2.trans (hb.mono E2.out.2.2.size), hm', hr', fun k hk => (E2.out.1.owned k hk).2, Y2.out.trans (hb.mono Y2.out.size)⟩; clear hc he hl' hm' hr' hb)
    | (go_at_call 12; rw [e116.out]; refine (write_in (s := sT) E3.out.2.1 E3.out.2.2.1 E2.out.2.1 (by decide) (fits_calm _ (by decide)) (by decide)).mono ?_; rw [E3.out.1, HW.out]; rintro e w4 ⟨rfl, p4, s4, v4, d4⟩; have E4 : Hid (PSt w4 w.heap.size g p4 ∧ p4.vm = loneV sT F F.length ∧ Below w.heap.size w w4 ∧ Below wb.heap.size wb w4 ∧ (EMades w4 w2.heap.size l' ∧ Erow w4 w2.heap.size A' c' l') ∧ (∀ k, p4.own g k → k < w2.heap.size ∨ w3.heap.size ≤ k)) := Lib.hid ⟨s4, v4, E3.out.2.2.2.1.trans (d4.below E3.out.2.2.2.1.size (fun k hk => (E3.out.2.2.1.owned k hk).1)), E3.out.2.2.2.2.2.2.2.trans (d4.below E3.out.2.2.2.2.2.2.2.size (fun k hk => by have := HPO.out k hk; omega)), ⟨made_does E3.out.2.2.2.2.1 d4 E3.out.2.2.2.2.2.2.1, erow_does E3.out.2.2.2.2.2.1 d4 E3.out.2.2.2.2.2.2.1⟩, fun k hk => (d4.grows k hk).imp (E3.out.2.2.2.2.2.2.1 k) id⟩; clear s4 v4 d4)
    | (go_at_call 20; refine (refSame_any A' (some ad) l' l n n c' c w4 E3.out.2.1.len HH.out.len E4.out.2.2.2.2.1.2.lies (HH.out.kept E4.out.2.2.1).lies (E4.out.2.2.2.2.1.1.ins (by rw [E3.out.1]; exact HH.out.byl)) (HH.out.kept E4.out.2.2.1).ins (by omega)).mono ?_; rw [decide_eq_true E3.out.1]; rintro e w6 ⟨rfl, hb⟩; have B6 := Lib.hid hb; clear hb))
  have HZ3 : Hid (∀ g, EnB l' g → w2.heap.size ≤ g ∧ g < w3.heap.size) := Lib.hid (enB_low E3.out.2.2.2.2.1)
  have Mw6 := Lib.hid (me_new (E4.out.2.2.2.2.1.1.kept B6.out (Nat.le_refl _)) (E4.out.2.2.2.2.1.2.kept B6.out (Nat.le_refl _)))
  have HTw6 : Hid (l'.length = n) := Lib.hid E3.out.2.1.len
  have HBw6 : Hid (∀ q ∈ l', (q.k.l.length : Int) ≤ 9223372036854775807 ∧ (q.v.l.length : Int) ≤ 9223372036854775807) := Lib.hid (fun q hq => by have := E3.out.2.1.small.2 q hq; omega)
  go_wp2_with fail
  go_loopw [48] (fun t48 wr => ∃ i : Nat, i ≤ n ∧ t48 = .int .i64 i ∧ Hid (Me (EnB l') w6 A' l' wr)) (fun t48 _ => n - (intOf t48).toNat)
  case atStart => exact ⟨0, by omega, rfl, Mw6⟩
  case round =>
    obtain ⟨i, hi, rfl, hmi⟩ := hrel
    by_cases hlt : i < n
    · have hq := List.getElem?_eq_getElem (l := l') (i := i) (by have := HTw6.out; omega)
      generalize l'[i]'(by have := HTw6.out; omega) = q at hq
      obtain ⟨ad, rfl, -⟩ := lies_entry hmi.out.row hq
      have HSG := Lib.hid hq
      have hb9 := HBw6.out q (List.mem_of_getElem? hq)
      obtain ⟨⟨ka, kc, kl⟩, qs, qd, ⟨va, vc, vl⟩⟩ := q
      simp only at hb9
      obtain ⟨km, hkm⟩ : ∃ m, kl.length = m := ⟨_, rfl⟩
      obtain ⟨vm, hvm⟩ : ∃ m, vl.length = m := ⟨_, rfl⟩
      rw [hkm, hvm] at hb9
      have HMZ := Lib.hid (And.intro hkm hvm)
      obtain ⟨km9, vm9⟩ := hb9
      obtain ⟨a0, a1, a2, a3⟩ := lies_entry_at hmi.out.row hq
      simp only at a0 a3
      rw [hkm] at a0
      rw [hvm] at a3
      have i0 : (i : Int) < n := by omega
      clear hq hkm hvm
      generalize wr = u1b at hmi a0 a1 a2 a3 ⊢
      go_wp2_with fail
      go_loopw [57] (fun t57 wr => ∃ k : Nat, k ≤ km ∧ t57 = .int .i64 k ∧ Hid (Me (EnB l') w6 (some ad) l' wr)) (fun t57 _ => km - (intOf t57).toNat)
      case atStart => exact ⟨0, by omega, rfl, hmi⟩
      case round =>
        obtain ⟨k, hk, rfl, hmk⟩ := hrel
        obtain ⟨a0, a1, a2, a3⟩ := lies_entry_at hmk.out.row HSG.out
        simp only at a0 a3
        rw [HMZ.out.1] at a0
        rw [HMZ.out.2] at a3
        by_cases hltk : k < km
        · obtain ⟨gx, v, e, d0, f0, hset⟩ := hmk.out.mark (hmk.out.spots _ (List.mem_of_getElem? HSG.out)).1 (k := k) (by simp only [HMZ.out.1, HMZ.out.2]; exact hltk)
          simp only at e
          subst e
          have HSET := Lib.hid hset
          have i1 : (k : Int) < km := by omega
          clear hset
          go_upto_region 15 with fail
          have HSC : Hid (∀ y, (fun W : World => W.cell? (ad.add (i * 4)) = some (.slice (some ⟨gx, 0, none⟩) km kc)) (wr.setCell ⟨gx, k, none⟩ (.int .u8 y)).drew) := Lib.hid (fun y => by
            have q := lies_entry_at ((HSET.out y).drew).row HSG.out
            unfold AtE at q
            simp only [HMZ.out.1, HMZ.out.2] at q
            exact q.1)
          refine wp_region_noPanic ?_
          refine wp_region_held (S := fun W => W.cell? (ad.add (i * 4)) = some (.slice (some ⟨gx, 0, none⟩) km kc)) (by kernel_rfl) ?_
          change wpAnyH _ _ _ _ _ _ _ _ (World.drew _)
          have s0 : (fun W : World => W.cell? (ad.add (i * 4)) = some (.slice (some ⟨gx, 0, none⟩) km kc)) wr.drew := a0
          refine wpAnyH_take (i := 0) (v := .slice (some ad) n c') rfl (by kernel_rfl) (by kernel_rfl) (by kernel_rfl) (fun _ _ _ h => h) (Or.inl ⟨by first | kernel_rfl | rfl, fun _ hS => by go_simp⟩) s0 ?_
          try simp only [Act.put, List.getElem_toArray, List.getElem_cons_zero, List.getElem_cons_succ, List.setIfInBounds_toArray, List.set_cons_zero, List.set_cons_succ]
          refine wpAnyH_take (i := 1) (v := .int .i64 (i : Int)) rfl (by kernel_rfl) (by kernel_rfl) (by kernel_rfl) (fun _ _ _ h => h) (Or.inl ⟨by first | kernel_rfl | rfl, fun _ hS => by go_simp⟩) s0 ?_
          try simp only [Act.put, List.getElem_toArray, List.getElem_cons_zero, List.getElem_cons_succ, List.setIfInBounds_toArray, List.set_cons_zero, List.set_cons_succ]
          refine wpAnyH_take (i := 2) (v := .pointer (some (ad.add (i * 4)))) rfl (by kernel_rfl) (by kernel_rfl) (by kernel_rfl) (fun _ _ _ h => h) (Or.inl ⟨by first | kernel_rfl | rfl, fun _ hS => by go_simp⟩) s0 ?_
          try simp only [Act.put, List.getElem_toArray, List.getElem_cons_zero, List.getElem_cons_succ, List.setIfInBounds_toArray, List.set_cons_zero, List.set_cons_succ]
          refine wpAnyH_take (i := 3) (v := .pointer (some (ad.add (i * 4)))) rfl (by kernel_rfl) (by kernel_rfl) (by kernel_rfl) (fun _ _ _ h => h) (Or.inl ⟨by first | kernel_rfl | rfl, fun _ hS => by go_simp⟩) s0 ?_
          try simp only [Act.put, List.getElem_toArray, List.getElem_cons_zero, List.getElem_cons_succ, List.setIfInBounds_toArray, List.set_cons_zero, List.set_cons_succ]
          refine wpAnyH_take (i := 4) (v := .slice (some ⟨gx, 0, none⟩) km kc) rfl (by kernel_rfl) (by kernel_rfl) (by kernel_rfl) (fun _ _ _ h => h) (Or.inl ⟨by first | kernel_rfl | rfl, fun _ hS => by have k1 := hS; go_simp⟩) s0 ?_
          try simp only [Act.put, List.getElem_toArray, List.getElem_cons_zero, List.getElem_cons_succ, List.setIfInBounds_toArray, List.set_cons_zero, List.set_cons_succ]
          refine wpAnyH_take (i := 5) (v := .int .i64 (k : Int)) rfl (by kernel_rfl) (by kernel_rfl) (by kernel_rfl) (fun _ _ _ h => h) (Or.inl ⟨by first | kernel_rfl | rfl, fun _ hS => by go_simp⟩) s0 ?_
          try simp only [Act.put, List.getElem_toArray, List.getElem_cons_zero, List.getElem_cons_succ, List.setIfInBounds_toArray, List.set_cons_zero, List.set_cons_succ]
          refine wpAnyH_take (i := 6) (v := .slice (some ad) n c') rfl (by kernel_rfl) (by kernel_rfl) (by kernel_rfl) (fun _ _ _ h => h) (Or.inl ⟨by first | kernel_rfl | rfl, fun _ hS => by go_simp⟩) s0 ?_
          try simp only [Act.put, List.getElem_toArray, List.getElem_cons_zero, List.getElem_cons_succ, List.setIfInBounds_toArray, List.set_cons_zero, List.set_cons_succ]
          refine wpAnyH_take (i := 7) (v := .int .i64 (i : Int)) rfl (by kernel_rfl) (by kernel_rfl) (by kernel_rfl) (fun _ _ _ h => h) (Or.inl ⟨by first | kernel_rfl | rfl, fun _ hS => by go_simp⟩) s0 ?_
          try simp only [Act.put, List.getElem_toArray, List.getElem_cons_zero, List.getElem_cons_succ, List.setIfInBounds_toArray, List.set_cons_zero, List.set_cons_succ]
          refine wpAnyH_take (i := 8) (v := .pointer (some (ad.add (i * 4)))) rfl (by kernel_rfl) (by kernel_rfl) (by kernel_rfl) (fun _ _ _ h => h) (Or.inl ⟨by first | kernel_rfl | rfl, fun _ hS => by go_simp⟩) s0 ?_
          try simp only [Act.put, List.getElem_toArray, List.getElem_cons_zero, List.getElem_cons_succ, List.setIfInBounds_toArray, List.set_cons_zero, List.set_cons_succ]
          refine wpAnyH_take (i := 9) (v := .pointer (some (ad.add (i * 4)))) rfl (by kernel_rfl) (by kernel_rfl) (by kernel_rfl) (fun _ _ _ h => h) (Or.inl ⟨by first | kernel_rfl | rfl, fun _ hS => by go_simp⟩) s0 ?_
          try simp only [Act.put, List.getElem_toArray, List.getElem_cons_zero, List.getElem_cons_succ, List.setIfInBounds_toArray, List.set_cons_zero, List.set_cons_succ]
          refine wpAnyH_take (i := 10) (v := .slice (some ⟨gx, 0, none⟩) km kc) rfl (by kernel_rfl) (by kernel_rfl) (by kernel_rfl) (fun _ _ _ h => h) (Or.inl ⟨by first | kernel_rfl | rfl, fun _ hS => by have k1 := hS; go_simp⟩) s0 ?_
          try simp only [Act.put, List.getElem_toArray, List.getElem_cons_zero, List.getElem_cons_succ, List.setIfInBounds_toArray, List.set_cons_zero, List.set_cons_succ]
          refine wpAnyH_take (i := 11) (v := .int .i64 (k : Int)) rfl (by kernel_rfl) (by kernel_rfl) (by kernel_rfl) (fun _ _ _ h => h) (Or.inl ⟨by first | kernel_rfl | rfl, fun _ hS => by go_simp⟩) s0 ?_
          try simp only [Act.put, List.getElem_toArray, List.getElem_cons_zero, List.getElem_cons_succ, List.setIfInBounds_toArray, List.set_cons_zero, List.set_cons_succ]
          refine wpAnyH_take (i := 12) (v := .pointer (some ⟨gx, k, none⟩)) rfl (by kernel_rfl) (by kernel_rfl) (by kernel_rfl) (fun _ _ _ h => h) (Or.inl ⟨by first | kernel_rfl | rfl, fun _ hS => by go_simp⟩) s0 ?_
          try simp only [Act.put, List.getElem_toArray, List.getElem_cons_zero, List.getElem_cons_succ, List.setIfInBounds_toArray, List.set_cons_zero, List.set_cons_succ]
          refine wpAnyH_ready (rs := [13]) (by kernel_rfl) (by simp) ?_
          refine AllReadyH.cons rfl (fun K hK => ?_) AllReadyH.nil
          go_simp
          refine hK.out _ _ s0 (fun _ => ?_)
          clear hK K
          try simp only [Act.put, List.getElem_toArray, List.getElem_cons_zero, List.getElem_cons_succ, List.setIfInBounds_toArray, List.set_cons_zero, List.set_cons_succ]
          refine wpAnyH_ready (rs := [14]) (by kernel_rfl) (by simp) ?_
          refine AllReadyH.cons rfl (fun K hK => ?_) AllReadyH.nil
          go_simp
          refine hK.out _ _ s0 (fun _ => ?_)
          clear hK K
          try simp only [Act.put, List.getElem_toArray, List.getElem_cons_zero, List.getElem_cons_succ, List.setIfInBounds_toArray, List.set_cons_zero, List.set_cons_succ]
          refine wpAnyH_take (i := 15) (v := .pointer (some ⟨gx, k, none⟩)) rfl (by kernel_rfl) (by kernel_rfl) (by kernel_rfl) (fun _ _ _ h => h) (Or.inl ⟨by first | kernel_rfl | rfl, fun _ hS => by go_simp⟩) s0 ?_
          try simp only [Act.put, List.getElem_toArray, List.getElem_cons_zero, List.getElem_cons_succ, List.setIfInBounds_toArray, List.set_cons_zero, List.set_cons_succ]
          refine wpAnyH_ready (rs := [16]) (by kernel_rfl) (by simp) ?_
          refine AllReadyH.cons rfl (fun K hK => ?_) AllReadyH.nil
          go_simp
          refine hK.out _ _ (by first | exact HSC.out _ | skip) (fun _ => ?_)
          clear hK K
          try simp only [Act.put, List.getElem_toArray, List.getElem_cons_zero, List.getElem_cons_succ, List.setIfInBounds_toArray, List.set_cons_zero, List.set_cons_succ]
          refine wpAnyH_done (by kernel_rfl) (NoPanic.normal ?_) _
          try simp only [Act.put, List.getElem_toArray, List.getElem_cons_zero, List.getElem_cons_succ, List.setIfInBounds_toArray, List.set_cons_zero, List.set_cons_succ]
          go_wp2_with fail
          go_roundw
          case rel => exact ⟨k + 1, by omega, by go_num, Lib.hid (by first | exact (HSET.out _).drew | exact HSET.out _)⟩
          case measure => simp [intOf]; omega
        · obtain rfl : k = km := by omega
          clear hltk
          clear a0 a1 a2 a3
          generalize wr = u1a at hmk ⊢
          obtain ⟨a0, a1, a2, a3⟩ := lies_entry_at hmk.out.row HSG.out
          simp only at a0 a3
          rw [HMZ.out.1] at a0
          rw [HMZ.out.2] at a3
          go_wp2_with fail
          go_loopw [83] (fun t83 wr => ∃ k : Nat, k ≤ vm ∧ t83 = .int .i64 k ∧ Hid (Me (EnB l') w6 (some ad) l' wr)) (fun t83 _ => vm - (intOf t83).toNat)
          case atStart => exact ⟨0, by omega, rfl, hmk⟩
          case round =>
            obtain ⟨k, hk, rfl, hmk⟩ := hrel
            obtain ⟨a0, a1, a2, a3⟩ := lies_entry_at hmk.out.row HSG.out
            simp only at a0 a3
            rw [HMZ.out.1] at a0
            rw [HMZ.out.2] at a3
            by_cases hltk : k < vm
            · obtain ⟨gx, v, e, d0, f0, hset⟩ := hmk.out.mark (hmk.out.spots _ (List.mem_of_getElem? HSG.out)).2 (k := k) (by simp only [HMZ.out.1, HMZ.out.2]; exact hltk)
              simp only at e
              subst e
              have HSET := Lib.hid hset
              have i1 : (k : Int) < vm := by omega
              clear hset
              go_upto_region 20 with fail
              have HSC : Hid (∀ y, (fun W : World => W.cell? ⟨(ad.add (i * 4)).block, (ad.add (i * 4)).off + 3, none⟩ = some (.slice (some ⟨gx, 0, none⟩) vm vc)) (wr.setCell ⟨gx, k, none⟩ (.int .u8 y)).drew) := Lib.hid (fun y => by
                have q := lies_entry_at ((HSET.out y).drew).row HSG.out
                unfold AtE at q
                simp only [HMZ.out.1, HMZ.out.2] at q
                exact q.2.2.2)
              refine wp_region_noPanic ?_
              refine wp_region_held (S := fun W => W.cell? ⟨(ad.add (i * 4)).block, (ad.add (i * 4)).off + 3, none⟩ = some (.slice (some ⟨gx, 0, none⟩) vm vc)) (by kernel_rfl) ?_
              change wpAnyH _ _ _ _ _ _ _ _ (World.drew _)
              have s0 : (fun W : World => W.cell? ⟨(ad.add (i * 4)).block, (ad.add (i * 4)).off + 3, none⟩ = some (.slice (some ⟨gx, 0, none⟩) vm vc)) wr.drew := a3
              refine wpAnyH_take (i := 0) (v := .slice (some ad) n c') rfl (by kernel_rfl) (by kernel_rfl) (by kernel_rfl) (fun _ _ _ h => h) (Or.inl ⟨by first | kernel_rfl | rfl, fun _ hS => by go_simp⟩) s0 ?_
              try simp only [Act.put, List.getElem_toArray, List.getElem_cons_zero, List.getElem_cons_succ, List.setIfInBounds_toArray, List.set_cons_zero, List.set_cons_succ]
              refine wpAnyH_take (i := 1) (v := .int .i64 (i : Int)) rfl (by kernel_rfl) (by kernel_rfl) (by kernel_rfl) (fun _ _ _ h => h) (Or.inl ⟨by first | kernel_rfl | rfl, fun _ hS => by go_simp⟩) s0 ?_
              try simp only [Act.put, List.getElem_toArray, List.getElem_cons_zero, List.getElem_cons_succ, List.setIfInBounds_toArray, List.set_cons_zero, List.set_cons_succ]
              refine wpAnyH_take (i := 2) (v := .pointer (some (ad.add (i * 4)))) rfl (by kernel_rfl) (by kernel_rfl) (by kernel_rfl) (fun _ _ _ h => h) (Or.inl ⟨by first | kernel_rfl | rfl, fun _ hS => by go_simp⟩) s0 ?_
              try simp only [Act.put, List.getElem_toArray, List.getElem_cons_zero, List.getElem_cons_succ, List.setIfInBounds_toArray, List.set_cons_zero, List.set_cons_succ]
              refine wpAnyH_take (i := 3) (v := .pointer (some ⟨(ad.add (i * 4)).block, (ad.add (i * 4)).off + 3, none⟩)) rfl (by kernel_rfl) (by kernel_rfl) (by kernel_rfl) (fun _ _ _ h => h) (Or.inl ⟨by first | kernel_rfl | rfl, fun _ hS => by go_simp⟩) s0 ?_
              try simp only [Act.put, List.getElem_toArray, List.getElem_cons_zero, List.getElem_cons_succ, List.setIfInBounds_toArray, List.set_cons_zero, List.set_cons_succ]
              refine wpAnyH_take (i := 4) (v := .slice (some ⟨gx, 0, none⟩) vm vc) rfl (by kernel_rfl) (by kernel_rfl) (by kernel_rfl) (fun _ _ _ h => h) (Or.inl ⟨by first | kernel_rfl | rfl, fun _ hS => by have k1 := hS; go_simp⟩) s0 ?_
              try simp only [Act.put, List.getElem_toArray, List.getElem_cons_zero, List.getElem_cons_succ, List.setIfInBounds_toArray, List.set_cons_zero, List.set_cons_succ]
              refine wpAnyH_take (i := 5) (v := .int .i64 (k : Int)) rfl (by kernel_rfl) (by kernel_rfl) (by kernel_rfl) (fun _ _ _ h => h) (Or.inl ⟨by first | kernel_rfl | rfl, fun _ hS => by go_simp⟩) s0 ?_
              try simp only [Act.put, List.getElem_toArray, List.getElem_cons_zero, List.getElem_cons_succ, List.setIfInBounds_toArray, List.set_cons_zero, List.set_cons_succ]
              refine wpAnyH_take (i := 6) (v := .slice (some ad) n c') rfl (by kernel_rfl) (by kernel_rfl) (by kernel_rfl) (fun _ _ _ h => h) (Or.inl ⟨by first | kernel_rfl | rfl, fun _ hS => by go_simp⟩) s0 ?_
              try simp only [Act.put, List.getElem_toArray, List.getElem_cons_zero, List.getElem_cons_succ, List.setIfInBounds_toArray, List.set_cons_zero, List.set_cons_succ]
              refine wpAnyH_take (i := 7) (v := .int .i64 (i : Int)) rfl (by kernel_rfl) (by kernel_rfl) (by kernel_rfl) (fun _ _ _ h => h) (Or.inl ⟨by first | kernel_rfl | rfl, fun _ hS => by go_simp⟩) s0 ?_
              try simp only [Act.put, List.getElem_toArray, List.getElem_cons_zero, List.getElem_cons_succ, List.setIfInBounds_toArray, List.set_cons_zero, List.set_cons_succ]
              refine wpAnyH_take (i := 8) (v := .pointer (some (ad.add (i * 4)))) rfl (by kernel_rfl) (by kernel_rfl) (by kernel_rfl) (fun _ _ _ h => h) (Or.inl ⟨by first | kernel_rfl | rfl, fun _ hS => by go_simp⟩) s0 ?_
              try simp only [Act.put, List.getElem_toArray, List.getElem_cons_zero, List.getElem_cons_succ, List.setIfInBounds_toArray, List.set_cons_zero, List.set_cons_succ]
              refine wpAnyH_take (i := 9) (v := .pointer (some ⟨(ad.add (i * 4)).block, (ad.add (i * 4)).off + 3, none⟩)) rfl (by kernel_rfl) (by kernel_rfl) (by kernel_rfl) (fun _ _ _ h => h) (Or.inl ⟨by first | kernel_rfl | rfl, fun _ hS => by go_simp⟩) s0 ?_
              try simp only [Act.put, List.getElem_toArray, List.getElem_cons_zero, List.getElem_cons_succ, List.setIfInBounds_toArray, List.set_cons_zero, List.set_cons_succ]
              refine wpAnyH_take (i := 10) (v := .slice (some ⟨gx, 0, none⟩) vm vc) rfl (by kernel_rfl) (by kernel_rfl) (by kernel_rfl) (fun _ _ _ h => h) (Or.inl ⟨by first | kernel_rfl | rfl, fun _ hS => by have k1 := hS; go_simp⟩) s0 ?_
              try simp only [Act.put, List.getElem_toArray, List.getElem_cons_zero, List.getElem_cons_succ, List.setIfInBounds_toArray, List.set_cons_zero, List.set_cons_succ]
              refine wpAnyH_take (i := 11) (v := .int .i64 (k : Int)) rfl (by kernel_rfl) (by kernel_rfl) (by kernel_rfl) (fun _ _ _ h => h) (Or.inl ⟨by first | kernel_rfl | rfl, fun _ hS => by go_simp⟩) s0 ?_
              try simp only [Act.put, List.getElem_toArray, List.getElem_cons_zero, List.getElem_cons_succ, List.setIfInBounds_toArray, List.set_cons_zero, List.set_cons_succ]
              refine wpAnyH_take (i := 12) (v := .pointer (some ⟨gx, k, none⟩)) rfl (by kernel_rfl) (by kernel_rfl) (by kernel_rfl) (fun _ _ _ h => h) (Or.inl ⟨by first | kernel_rfl | rfl, fun _ hS => by go_simp⟩) s0 ?_
              try simp only [Act.put, List.getElem_toArray, List.getElem_cons_zero, List.getElem_cons_succ, List.setIfInBounds_toArray, List.set_cons_zero, List.set_cons_succ]
              refine wpAnyH_ready (rs := [13]) (by kernel_rfl) (by simp) ?_
              refine AllReadyH.cons rfl (fun K hK => ?_) AllReadyH.nil
              go_simp
              refine hK.out _ _ s0 (fun _ => ?_)
              clear hK K
              try simp only [Act.put, List.getElem_toArray, List.getElem_cons_zero, List.getElem_cons_succ, List.setIfInBounds_toArray, List.set_cons_zero, List.set_cons_succ]
              refine wpAnyH_ready (rs := [14]) (by kernel_rfl) (by simp) ?_
              refine AllReadyH.cons rfl (fun K hK => ?_) AllReadyH.nil
              go_simp
              refine hK.out _ _ s0 (fun _ => ?_)
              clear hK K
              try simp only [Act.put, List.getElem_toArray, List.getElem_cons_zero, List.getElem_cons_succ, List.setIfInBounds_toArray, List.set_cons_zero, List.set_cons_succ]
              refine wpAnyH_take (i := 15) (v := .pointer (some ⟨gx, k, none⟩)) rfl (by kernel_rfl) (by kernel_rfl) (by kernel_rfl) (fun _ _ _ h => h) (Or.inl ⟨by first | kernel_rfl | rfl, fun _ hS => by go_simp⟩) s0 ?_
              try simp only [Act.put, List.getElem_toArray, List.getElem_cons_zero, List.getElem_cons_succ, List.setIfInBounds_toArray, List.set_cons_zero, List.set_cons_succ]
              refine wpAnyH_ready (rs := [16]) (by kernel_rfl) (by simp) ?_
              refine AllReadyH.cons rfl (fun K hK => ?_) AllReadyH.nil
              go_simp
              refine hK.out _ _ (by first | exact HSC.out _ | skip) (fun _ => ?_)
              clear hK K
              try simp only [Act.put, List.getElem_toArray, List.getElem_cons_zero, List.getElem_cons_succ, List.setIfInBounds_toArray, List.set_cons_zero, List.set_cons_succ]
              refine wpAnyH_done (by kernel_rfl) (NoPanic.normal ?_) _
              try simp only [Act.put, List.getElem_toArray, List.getElem_cons_zero, List.getElem_cons_succ, List.setIfInBounds_toArray, List.set_cons_zero, List.set_cons_succ]
              go_wp2_with fail
              go_roundw
              case rel => exact ⟨k + 1, by omega, by go_num, Lib.hid (by first | exact (HSET.out _).drew | exact HSET.out _)⟩
              case measure => simp [intOf]; omega
            · obtain rfl : k = vm := by omega
              clear hltk
              go_wp2_with fail
              go_roundw
              case rel => exact ⟨i + 1, by omega, by go_num, hmk⟩
              case measure => simp [intOf]; omega
    · obtain rfl : n = i := by omega
      clear hlt hi
      generalize wr = u1 at hmi ⊢
      have HU1 : Hid (PSt u1 w.heap.size g p4 ∧ Below w.heap.size w u1 ∧ Below wb.heap.size wb u1) := Lib.hid ⟨(E4.out.1.kept B6.out).of (fun k hk => hmi.out.kp.block k (fun hz => by
          have h1 := HZ3.out k hz
          rcases E4.out.2.2.2.2.2 k hk with h2 | h2 <;> omega)), (E4.out.2.2.1.trans (B6.out.mono E4.out.2.2.1.size)).trans (hmi.out.kp.below (fun k hk hz => by have := (HZ3.out k hz).1; have := E2.out.2.2.size; omega)), (E4.out.2.2.2.1.trans (B6.out.mono E4.out.2.2.2.1.size)).trans (hmi.out.kp.below (fun k hk hz => by have := (HZ3.out k hz).1; have := Y2.out.size; omega))⟩
      clear hmi
      go_upto_region 26 with (go_at_call 17; rw [e116.out]; refine (open_any w.heap.size g p4 _ sT u1 HU1.out.1 E4.out.2.1 (by decide) (fits_lone (by decide) (by have := HF9.out; omega)) (short_lone (by have := HF9.out; omega))).mono ?_; rw [HR1.out]; rintro e w7 ⟨b7, h7⟩; obtain ⟨t, hts, rfl, hta, hcnt, hmb⟩ := opened_whole HT.out HWH.out h7; have E7 : Hid (t.tb = tb ∧ TabAt w7 t ∧ Below w.heap.size w w7 ∧ u1.heap.size ≤ t.mb ∧ Below wb.heap.size wb w7) := Lib.hid ⟨hts, hta, HU1.out.2.1.trans (b7.mono HU1.out.2.1.size), hmb, HU1.out.2.2.trans (b7.mono HU1.out.2.2.size)⟩; clear hts hta hcnt b7 h7 hmb)
      have HMB : Hid (w.heap.size ≤ t.mb) := Lib.hid (by have := E7.out.2.2.2.1; have := HU1.out.2.1.size; omega)
      have HRL : Hid (t.R.length ≤ 2305843009213693952) := Lib.hid (by have := HWH.out.few; rw [← E7.out.1, ers_len, HH.out.len] at this; have := HH.out.small.1; simp only [Tm.tb, List.length_map] at *; omega)
      have HM7 : Hid (t.mb < w7.heap.size) := Lib.hid (by obtain ⟨es, ck, hm⟩ := E7.out.2.1.mapAt; exact (Array.getElem?_eq_some_iff.1 hm).1)
      have y1 := HBX.out w7 E7.out.2.2.2.2
      go_upto_region 27 with (go_at_call 18; refine (all_low l t lx.a lx.l ln lx.c w7 E7.out.2.1 (by rw [E7.out.1]; exact HWH.out) (by have := HH.out.small.1; have := HH.out.len; omega) (HIX.out w7 E7.out.2.2.1) (by have := HK9.out; omega)).mono ?_; rintro e w8 ⟨l8, A8, z8, c8, hz8, rfl, r8, m8, t8, tw8⟩; have E8 := Lib.hid (And.intro r8 m8); have HTw8 : Hid (l8.length = z8) := Lib.hid hz8; have TW8 := Lib.hid tw8; have B8 : Hid (Below w.heap.size w w8) := Lib.hid (E7.out.2.2.1.trans (t8.below HMB.out E7.out.2.2.1.size)); clear hz8 r8 m8 t8 tw8 y1)
      have HZ8 := Lib.hid (enB_low E8.out.2)
      have NM8 : Hid (¬ (SlB A8 t.mb ∨ EnB l8 t.mb)) := Lib.hid (by
        have := HM7.out
        rintro (⟨ad8, e8, h8⟩ | h8)
        · have := own_in E8.out.1 ad8 e8
          omega
        · have := HZ8.out _ h8
          omega)
      have Mw8 := Lib.hid (me_new E8.out.2 E8.out.1)
      have HBw8 : Hid (∀ q ∈ l8, (q.k.l.length : Int) ≤ 9223372036854775807 ∧ (q.v.l.length : Int) ≤ 9223372036854775807) := Lib.hid (fun q hq => by
        have h1 := own_cap (E8.out.2 q hq).1
        have h2 := own_cap (E8.out.2 q hq).2
        omega)
      have z89 : (z8 : Int) ≤ 9223372036854775807 := by have := own_cap E8.out.1; have := HTw8.out; omega
      go_wp2_with fail
      go_loopw [120] (fun t120 wr => ∃ i : Nat, i ≤ z8 ∧ t120 = .int .i64 i ∧ Hid (Me (EnB l8) w8 A8 l8 wr)) (fun t120 _ => z8 - (intOf t120).toNat)
      case atStart => exact ⟨0, by omega, rfl, Mw8⟩
      case round =>
        obtain ⟨i, hi, rfl, hmi⟩ := hrel
        by_cases hlt : i < z8
        · have hq := List.getElem?_eq_getElem (l := l8) (i := i) (by have := HTw8.out; omega)
          generalize l8[i]'(by have := HTw8.out; omega) = q at hq
          obtain ⟨ad, rfl, -⟩ := lies_entry hmi.out.row hq
          have HSG := Lib.hid hq
          have hb9 := HBw8.out q (List.mem_of_getElem? hq)
          obtain ⟨⟨ka, kc, kl⟩, qs, qd, ⟨va, vc, vl⟩⟩ := q
          simp only at hb9
          obtain ⟨km, hkm⟩ : ∃ m, kl.length = m := ⟨_, rfl⟩
          obtain ⟨vm, hvm⟩ : ∃ m, vl.length = m := ⟨_, rfl⟩
          rw [hkm, hvm] at hb9
          have HMZ := Lib.hid (And.intro hkm hvm)
          obtain ⟨km9, vm9⟩ := hb9
          obtain ⟨a0, a1, a2, a3⟩ := lies_entry_at hmi.out.row hq
          simp only at a0 a3
          rw [hkm] at a0
          rw [hvm] at a3
          have i0 : (i : Int) < z8 := by omega
          clear hq hkm hvm
          generalize wr = u2b at hmi a0 a1 a2 a3 ⊢
          go_wp2_with fail
          go_loopw [129] (fun t129 wr => ∃ k : Nat, k ≤ km ∧ t129 = .int .i64 k ∧ Hid (Me (EnB l8) w8 (some ad) l8 wr)) (fun t129 _ => km - (intOf t129).toNat)
          case atStart => exact ⟨0, by omega, rfl, hmi⟩
          case round =>
            obtain ⟨k, hk, rfl, hmk⟩ := hrel
            obtain ⟨a0, a1, a2, a3⟩ := lies_entry_at hmk.out.row HSG.out
            simp only at a0 a3
            rw [HMZ.out.1] at a0
            rw [HMZ.out.2] at a3
            by_cases hltk : k < km
            · obtain ⟨gx, v, e, d0, f0, hset⟩ := hmk.out.mark (hmk.out.spots _ (List.mem_of_getElem? HSG.out)).1 (k := k) (by simp only [HMZ.out.1, HMZ.out.2]; exact hltk)
              simp only at e
              subst e
              have HSET := Lib.hid hset
              have i1 : (k : Int) < km := by omega
              clear hset
              go_upto_region 33 with fail
              have HSC : Hid (∀ y, (fun W : World => W.cell? (ad.add (i * 4)) = some (.slice (some ⟨gx, 0, none⟩) km kc)) (wr.setCell ⟨gx, k, none⟩ (.int .u8 y)).drew) := Lib.hid (fun y => by
                have q := lies_entry_at ((HSET.out y).drew).row HSG.out
                unfold AtE at q
                simp only [HMZ.out.1, HMZ.out.2] at q
                exact q.1)
              refine wp_region_noPanic ?_
              refine wp_region_held (S := fun W => W.cell? (ad.add (i * 4)) = some (.slice (some ⟨gx, 0, none⟩) km kc)) (by kernel_rfl) ?_
              change wpAnyH _ _ _ _ _ _ _ _ (World.drew _)
              have s0 : (fun W : World => W.cell? (ad.add (i * 4)) = some (.slice (some ⟨gx, 0, none⟩) km kc)) wr.drew := a0
              refine wpAnyH_take (i := 0) (v := .slice (some ad) z8 c8) rfl (by kernel_rfl) (by kernel_rfl) (by kernel_rfl) (fun _ _ _ h => h) (Or.inl ⟨by first | kernel_rfl | rfl, fun _ hS => by go_simp⟩) s0 ?_
              try simp only [Act.put, List.getElem_toArray, List.getElem_cons_zero, List.getElem_cons_succ, List.setIfInBounds_toArray, List.set_cons_zero, List.set_cons_succ]
              refine wpAnyH_take (i := 1) (v := .int .i64 (i : Int)) rfl (by kernel_rfl) (by kernel_rfl) (by kernel_rfl) (fun _ _ _ h => h) (Or.inl ⟨by first | kernel_rfl | rfl, fun _ hS => by go_simp⟩) s0 ?_
              try simp only [Act.put, List.getElem_toArray, List.getElem_cons_zero, List.getElem_cons_succ, List.setIfInBounds_toArray, List.set_cons_zero, List.set_cons_succ]
              refine wpAnyH_take (i := 2) (v := .pointer (some (ad.add (i * 4)))) rfl (by kernel_rfl) (by kernel_rfl) (by kernel_rfl) (fun _ _ _ h => h) (Or.inl ⟨by first | kernel_rfl | rfl, fun _ hS => by go_simp⟩) s0 ?_
              try simp only [Act.put, List.getElem_toArray, List.getElem_cons_zero, List.getElem_cons_succ, List.setIfInBounds_toArray, List.set_cons_zero, List.set_cons_succ]
              refine wpAnyH_take (i := 3) (v := .pointer (some (ad.add (i * 4)))) rfl (by kernel_rfl) (by kernel_rfl) (by kernel_rfl) (fun _ _ _ h => h) (Or.inl ⟨by first | kernel_rfl | rfl, fun _ hS => by go_simp⟩) s0 ?_
              try simp only [Act.put, List.getElem_toArray, List.getElem_cons_zero, List.getElem_cons_succ, List.setIfInBounds_toArray, List.set_cons_zero, List.set_cons_succ]
              refine wpAnyH_take (i := 4) (v := .slice (some ⟨gx, 0, none⟩) km kc) rfl (by kernel_rfl) (by kernel_rfl) (by kernel_rfl) (fun _ _ _ h => h) (Or.inl ⟨by first | kernel_rfl | rfl, fun _ hS => by have k1 := hS; go_simp⟩) s0 ?_
              try simp only [Act.put, List.getElem_toArray, List.getElem_cons_zero, List.getElem_cons_succ, List.setIfInBounds_toArray, List.set_cons_zero, List.set_cons_succ]
              refine wpAnyH_take (i := 5) (v := .int .i64 (k : Int)) rfl (by kernel_rfl) (by kernel_rfl) (by kernel_rfl) (fun _ _ _ h => h) (Or.inl ⟨by first | kernel_rfl | rfl, fun _ hS => by go_simp⟩) s0 ?_
              try simp only [Act.put, List.getElem_toArray, List.getElem_cons_zero, List.getElem_cons_succ, List.setIfInBounds_toArray, List.set_cons_zero, List.set_cons_succ]
              refine wpAnyH_take (i := 6) (v := .slice (some ad) z8 c8) rfl (by kernel_rfl) (by kernel_rfl) (by kernel_rfl) (fun _ _ _ h => h) (Or.inl ⟨by first | kernel_rfl | rfl, fun _ hS => by go_simp⟩) s0 ?_
              try simp only [Act.put, List.getElem_toArray, List.getElem_cons_zero, List.getElem_cons_succ, List.setIfInBounds_toArray, List.set_cons_zero, List.set_cons_succ]
              refine wpAnyH_take (i := 7) (v := .int .i64 (i : Int)) rfl (by kernel_rfl) (by kernel_rfl) (by kernel_rfl) (fun _ _ _ h => h) (Or.inl ⟨by first | kernel_rfl | rfl, fun _ hS => by go_simp⟩) s0 ?_
              try simp only [Act.put, List.getElem_toArray, List.getElem_cons_zero, List.getElem_cons_succ, List.setIfInBounds_toArray, List.set_cons_zero, List.set_cons_succ]
              refine wpAnyH_take (i := 8) (v := .pointer (some (ad.add (i * 4)))) rfl (by kernel_rfl) (by kernel_rfl) (by kernel_rfl) (fun _ _ _ h => h) (Or.inl ⟨by first | kernel_rfl | rfl, fun _ hS => by go_simp⟩) s0 ?_
              try simp only [Act.put, List.getElem_toArray, List.getElem_cons_zero, List.getElem_cons_succ, List.setIfInBounds_toArray, List.set_cons_zero, List.set_cons_succ]
              refine wpAnyH_take (i := 9) (v := .pointer (some (ad.add (i * 4)))) rfl (by kernel_rfl) (by kernel_rfl) (by kernel_rfl) (fun _ _ _ h => h) (Or.inl ⟨by first | kernel_rfl | rfl, fun _ hS => by go_simp⟩) s0 ?_
              try simp only [Act.put, List.getElem_toArray, List.getElem_cons_zero, List.getElem_cons_succ, List.setIfInBounds_toArray, List.set_cons_zero, List.set_cons_succ]
              refine wpAnyH_take (i := 10) (v := .slice (some ⟨gx, 0, none⟩) km kc) rfl (by kernel_rfl) (by kernel_rfl) (by kernel_rfl) (fun _ _ _ h => h) (Or.inl ⟨by first | kernel_rfl | rfl, fun _ hS => by have k1 := hS; go_simp⟩) s0 ?_
              try simp only [Act.put, List.getElem_toArray, List.getElem_cons_zero, List.getElem_cons_succ, List.setIfInBounds_toArray, List.set_cons_zero, List.set_cons_succ]
              refine wpAnyH_take (i := 11) (v := .int .i64 (k : Int)) rfl (by kernel_rfl) (by kernel_rfl) (by kernel_rfl) (fun _ _ _ h => h) (Or.inl ⟨by first | kernel_rfl | rfl, fun _ hS => by go_simp⟩) s0 ?_
              try simp only [Act.put, List.getElem_toArray, List.getElem_cons_zero, List.getElem_cons_succ, List.setIfInBounds_toArray, List.set_cons_zero, List.set_cons_succ]
              refine wpAnyH_take (i := 12) (v := .pointer (some ⟨gx, k, none⟩)) rfl (by kernel_rfl) (by kernel_rfl) (by kernel_rfl) (fun _ _ _ h => h) (Or.inl ⟨by first | kernel_rfl | rfl, fun _ hS => by go_simp⟩) s0 ?_
              try simp only [Act.put, List.getElem_toArray, List.getElem_cons_zero, List.getElem_cons_succ, List.setIfInBounds_toArray, List.set_cons_zero, List.set_cons_succ]
              refine wpAnyH_ready (rs := [13]) (by kernel_rfl) (by simp) ?_
              refine AllReadyH.cons rfl (fun K hK => ?_) AllReadyH.nil
              go_simp
              refine hK.out _ _ s0 (fun _ => ?_)
              clear hK K
              try simp only [Act.put, List.getElem_toArray, List.getElem_cons_zero, List.getElem_cons_succ, List.setIfInBounds_toArray, List.set_cons_zero, List.set_cons_succ]
              refine wpAnyH_ready (rs := [14]) (by kernel_rfl) (by simp) ?_
              refine AllReadyH.cons rfl (fun K hK => ?_) AllReadyH.nil
              go_simp
              refine hK.out _ _ s0 (fun _ => ?_)
              clear hK K
              try simp only [Act.put, List.getElem_toArray, List.getElem_cons_zero, List.getElem_cons_succ, List.setIfInBounds_toArray, List.set_cons_zero, List.set_cons_succ]
              refine wpAnyH_take (i := 15) (v := .pointer (some ⟨gx, k, none⟩)) rfl (by kernel_rfl) (by kernel_rfl) (by kernel_rfl) (fun _ _ _ h => h) (Or.inl ⟨by first | kernel_rfl | rfl, fun _ hS => by go_simp⟩) s0 ?_
              try simp only [Act.put, List.getElem_toArray, List.getElem_cons_zero, List.getElem_cons_succ, List.setIfInBounds_toArray, List.set_cons_zero, List.set_cons_succ]
              refine wpAnyH_ready (rs := [16]) (by kernel_rfl) (by simp) ?_
              refine AllReadyH.cons rfl (fun K hK => ?_) AllReadyH.nil
              go_simp
              refine hK.out _ _ (by first | exact HSC.out _ | skip) (fun _ => ?_)
              clear hK K
              try simp only [Act.put, List.getElem_toArray, List.getElem_cons_zero, List.getElem_cons_succ, List.setIfInBounds_toArray, List.set_cons_zero, List.set_cons_succ]
              refine wpAnyH_done (by kernel_rfl) (NoPanic.normal ?_) _
              try simp only [Act.put, List.getElem_toArray, List.getElem_cons_zero, List.getElem_cons_succ, List.setIfInBounds_toArray, List.set_cons_zero, List.set_cons_succ]
              go_wp2_with fail
              go_roundw
              case rel => exact ⟨k + 1, by omega, by go_num, Lib.hid (by first | exact (HSET.out _).drew | exact HSET.out _)⟩
              case measure => simp [intOf]; omega
            · obtain rfl : k = km := by omega
              clear hltk
              clear a0 a1 a2 a3
              generalize wr = u2a at hmk ⊢
              obtain ⟨a0, a1, a2, a3⟩ := lies_entry_at hmk.out.row HSG.out
              simp only at a0 a3
              rw [HMZ.out.1] at a0
              rw [HMZ.out.2] at a3
              go_wp2_with fail
              go_loopw [155] (fun t155 wr => ∃ k : Nat, k ≤ vm ∧ t155 = .int .i64 k ∧ Hid (Me (EnB l8) w8 (some ad) l8 wr)) (fun t155 _ => vm - (intOf t155).toNat)
              case atStart => exact ⟨0, by omega, rfl, hmk⟩
              case round =>
                obtain ⟨k, hk, rfl, hmk⟩ := hrel
                obtain ⟨a0, a1, a2, a3⟩ := lies_entry_at hmk.out.row HSG.out
                simp only at a0 a3
                rw [HMZ.out.1] at a0
                rw [HMZ.out.2] at a3
                by_cases hltk : k < vm
                · obtain ⟨gx, v, e, d0, f0, hset⟩ := hmk.out.mark (hmk.out.spots _ (List.mem_of_getElem? HSG.out)).2 (k := k) (by simp only [HMZ.out.1, HMZ.out.2]; exact hltk)
                  simp only at e
                  subst e
                  have HSET := Lib.hid hset
                  have i1 : (k : Int) < vm := by omega
                  clear hset
                  go_upto_region 38 with fail
                  have HSC : Hid (∀ y, (fun W : World => W.cell? ⟨(ad.add (i * 4)).block, (ad.add (i * 4)).off + 3, none⟩ = some (.slice (some ⟨gx, 0, none⟩) vm vc)) (wr.setCell ⟨gx, k, none⟩ (.int .u8 y)).drew) := Lib.hid (fun y => by
                    have q := lies_entry_at ((HSET.out y).drew).row HSG.out
                    unfold AtE at q
                    simp only [HMZ.out.1, HMZ.out.2] at q
                    exact q.2.2.2)
                  refine wp_region_noPanic ?_
                  refine wp_region_held (S := fun W => W.cell? ⟨(ad.add (i * 4)).block, (ad.add (i * 4)).off + 3, none⟩ = some (.slice (some ⟨gx, 0, none⟩) vm vc)) (by kernel_rfl) ?_
                  change wpAnyH _ _ _ _ _ _ _ _ (World.drew _)
                  have s0 : (fun W : World => W.cell? ⟨(ad.add (i * 4)).block, (ad.add (i * 4)).off + 3, none⟩ = some (.slice (some ⟨gx, 0, none⟩) vm vc)) wr.drew := a3
                  refine wpAnyH_take (i := 0) (v := .slice (some ad) z8 c8) rfl (by kernel_rfl) (by kernel_rfl) (by kernel_rfl) (fun _ _ _ h => h) (Or.inl ⟨by first | kernel_rfl | rfl, fun _ hS => by go_simp⟩) s0 ?_
                  try simp only [Act.put, List.getElem_toArray, List.getElem_cons_zero, List.getElem_cons_succ, List.setIfInBounds_toArray, List.set_cons_zero, List.set_cons_succ]
                  refine wpAnyH_take (i := 1) (v := .int .i64 (i : Int)) rfl (by kernel_rfl) (by kernel_rfl) (by kernel_rfl) (fun _ _ _ h => h) (Or.inl ⟨by first | kernel_rfl | rfl, fun _ hS => by go_simp⟩) s0 ?_
                  try simp only [Act.put, List.getElem_toArray, List.getElem_cons_zero, List.getElem_cons_succ, List.setIfInBounds_toArray, List.set_cons_zero, List.set_cons_succ]
                  refine wpAnyH_take (i := 2) (v := .pointer (some (ad.add (i * 4)))) rfl (by kernel_rfl) (by kernel_rfl) (by kernel_rfl) (fun _ _ _ h => h) (Or.inl ⟨by first | kernel_rfl | rfl, fun _ hS => by go_simp⟩) s0 ?_
                  try simp only [Act.put, List.getElem_toArray, List.getElem_cons_zero, List.getElem_cons_succ, List.setIfInBounds_toArray, List.set_cons_zero, List.set_cons_succ]
                  refine wpAnyH_take (i := 3) (v := .pointer (some ⟨(ad.add (i * 4)).block, (ad.add (i * 4)).off + 3, none⟩)) rfl (by kernel_rfl) (by kernel_rfl) (by kernel_rfl) (fun _ _ _ h => h) (Or.inl ⟨by first | kernel_rfl | rfl, fun _ hS => by go_simp⟩) s0 ?_
                  try simp only [Act.put, List.getElem_toArray, List.getElem_cons_zero, List.getElem_cons_succ, List.setIfInBounds_toArray, List.set_cons_zero, List.set_cons_succ]
                  refine wpAnyH_take (i := 4) (v := .slice (some ⟨gx, 0, none⟩) vm vc) rfl (by kernel_rfl) (by kernel_rfl) (by kernel_rfl) (fun _ _ _ h => h) (Or.inl ⟨by first | kernel_rfl | rfl, fun _ hS => by have k1 := hS; go_simp⟩) s0 ?_
                  try simp only [Act.put, List.getElem_toArray, List.getElem_cons_zero, List.getElem_cons_succ, List.setIfInBounds_toArray, List.set_cons_zero, List.set_cons_succ]
                  refine wpAnyH_take (i := 5) (v := .int .i64 (k : Int)) rfl (by kernel_rfl) (by kernel_rfl) (by kernel_rfl) (fun _ _ _ h => h) (Or.inl ⟨by first | kernel_rfl | rfl, fun _ hS => by go_simp⟩) s0 ?_
                  try simp only [Act.put, List.getElem_toArray, List.getElem_cons_zero, List.getElem_cons_succ, List.setIfInBounds_toArray, List.set_cons_zero, List.set_cons_succ]
                  refine wpAnyH_take (i := 6) (v := .slice (some ad) z8 c8) rfl (by kernel_rfl) (by kernel_rfl) (by kernel_rfl) (fun _ _ _ h => h) (Or.inl ⟨by first | kernel_rfl | rfl, fun _ hS => by go_simp⟩) s0 ?_
                  try simp only [Act.put, List.getElem_toArray, List.getElem_cons_zero, List.getElem_cons_succ, List.setIfInBounds_toArray, List.set_cons_zero, List.set_cons_succ]
                  refine wpAnyH_take (i := 7) (v := .int .i64 (i : Int)) rfl (by kernel_rfl) (by kernel_rfl) (by kernel_rfl) (fun _ _ _ h => h) (Or.inl ⟨by first | kernel_rfl | rfl, fun _ hS => by go_simp⟩) s0 ?_
                  try simp only [Act.put, List.getElem_toArray, List.getElem_cons_zero, List.getElem_cons_succ, List.setIfInBounds_toArray, List.set_cons_zero, List.set_cons_succ]
                  refine wpAnyH_take (i := 8) (v := .pointer (some (ad.add (i * 4)))) rfl (by kernel_rfl) (by kernel_rfl) (by kernel_rfl) (fun _ _ _ h => h) (Or.inl ⟨by first | kernel_rfl | rfl, fun _ hS => by go_simp⟩) s0 ?_
                  try simp only [Act.put, List.getElem_toArray, List.getElem_cons_zero, List.getElem_cons_succ, List.setIfInBounds_toArray, List.set_cons_zero, List.set_cons_succ]
                  refine wpAnyH_take (i := 9) (v := .pointer (some ⟨(ad.add (i * 4)).block, (ad.add (i * 4)).off + 3, none⟩)) rfl (by kernel_rfl) (by kernel_rfl) (by kernel_rfl) (fun _ _ _ h => h) (Or.inl ⟨by first | kernel_rfl | rfl, fun _ hS => by go_simp⟩) s0 ?_
                  try simp only [Act.put, List.getElem_toArray, List.getElem_cons_zero, List.getElem_cons_succ, List.setIfInBounds_toArray, List.set_cons_zero, List.set_cons_succ]
                  refine wpAnyH_take (i := 10) (v := .slice (some ⟨gx, 0, none⟩) vm vc) rfl (by kernel_rfl) (by kernel_rfl) (by kernel_rfl) (fun _ _ _ h => h) (Or.inl ⟨by first | kernel_rfl | rfl, fun _ hS => by have k1 := hS; go_simp⟩) s0 ?_
                  try simp only [Act.put, List.getElem_toArray, List.getElem_cons_zero, List.getElem_cons_succ, List.setIfInBounds_toArray, List.set_cons_zero, List.set_cons_succ]
                  refine wpAnyH_take (i := 11) (v := .int .i64 (k : Int)) rfl (by kernel_rfl) (by kernel_rfl) (by kernel_rfl) (fun _ _ _ h => h) (Or.inl ⟨by first | kernel_rfl | rfl, fun _ hS => by go_simp⟩) s0 ?_
                  try simp only [Act.put, List.getElem_toArray, List.getElem_cons_zero, List.getElem_cons_succ, List.setIfInBounds_toArray, List.set_cons_zero, List.set_cons_succ]
                  refine wpAnyH_take (i := 12) (v := .pointer (some ⟨gx, k, none⟩)) rfl (by kernel_rfl) (by kernel_rfl) (by kernel_rfl) (fun _ _ _ h => h) (Or.inl ⟨by first | kernel_rfl | rfl, fun _ hS => by go_simp⟩) s0 ?_
                  try simp only [Act.put, List.getElem_toArray, List.getElem_cons_zero, List.getElem_cons_succ, List.setIfInBounds_toArray, List.set_cons_zero, List.set_cons_succ]
                  refine wpAnyH_ready (rs := [13]) (by kernel_rfl) (by simp) ?_
                  refine AllReadyH.cons rfl (fun K hK => ?_) AllReadyH.nil
                  go_simp
                  refine hK.out _ _ s0 (fun _ => ?_)
                  clear hK K
                  try simp only [Act.put, List.getElem_toArray, List.getElem_cons_zero, List.getElem_cons_succ, List.setIfInBounds_toArray, List.set_cons_zero, List.set_cons_succ]
                  refine wpAnyH_ready (rs := [14]) (by kernel_rfl) (by simp) ?_
                  refine AllReadyH.cons rfl (fun K hK => ?_) AllReadyH.nil
                  go_simp
                  refine hK.out _ _ s0 (fun _ => ?_)
                  clear hK K
                  try simp only [Act.put, List.getElem_toArray, List.getElem_cons_zero, List.getElem_cons_succ, List.setIfInBounds_toArray, List.set_cons_zero, List.set_cons_succ]
                  refine wpAnyH_take (i := 15) (v := .pointer (some ⟨gx, k, none⟩)) rfl (by kernel_rfl) (by kernel_rfl) (by kernel_rfl) (fun _ _ _ h => h) (Or.inl ⟨by first | kernel_rfl | rfl, fun _ hS => by go_simp⟩) s0 ?_
                  try simp only [Act.put, List.getElem_toArray, List.getElem_cons_zero, List.getElem_cons_succ, List.setIfInBounds_toArray, List.set_cons_zero, List.set_cons_succ]
                  refine wpAnyH_ready (rs := [16]) (by kernel_rfl) (by simp) ?_
                  refine AllReadyH.cons rfl (fun K hK => ?_) AllReadyH.nil
                  go_simp
                  refine hK.out _ _ (by first | exact HSC.out _ | skip) (fun _ => ?_)
                  clear hK K
                  try simp only [Act.put, List.getElem_toArray, List.getElem_cons_zero, List.getElem_cons_succ, List.setIfInBounds_toArray, List.set_cons_zero, List.set_cons_succ]
                  refine wpAnyH_done (by kernel_rfl) (NoPanic.normal ?_) _
                  try simp only [Act.put, List.getElem_toArray, List.getElem_cons_zero, List.getElem_cons_succ, List.setIfInBounds_toArray, List.set_cons_zero, List.set_cons_succ]
                  go_wp2_with fail
                  go_roundw
                  case rel => exact ⟨k + 1, by omega, by go_num, Lib.hid (by first | exact (HSET.out _).drew | exact HSET.out _)⟩
                  case measure => simp [intOf]; omega
                · obtain rfl : k = vm := by omega
                  clear hltk
                  go_wp2_with fail
                  go_roundw
                  case rel => exact ⟨i + 1, by omega, by go_num, hmk⟩
                  case measure => simp [intOf]; omega
        · obtain rfl : z8 = i := by omega
          clear hlt hi
          generalize wr = u2 at hmi ⊢
          have BU2 : Hid (Below w.heap.size w u2) := Lib.hid (B8.out.trans (hmi.out.kp.below (fun k hk hz => by have := (HZ8.out k hz).1; have := E7.out.2.2.1.size; omega)))
          have T2 : Hid (TabAt u2 t) := Lib.hid (TabW.at_ (S := fun _ => False) (TW8.out.turn (fun g o ho hn => ⟨(hmi.out.kp.block g (fun hz => hn (.inr hz))).trans ho, fun q => q⟩) NM8.out))
          have HM2 : Hid (t.mb < u2.heap.size) := Lib.hid (by obtain ⟨es, ck, hm⟩ := T2.out.mapAt; exact (Array.getElem?_eq_some_iff.1 hm).1)
          clear hmi
          go_upto_region 42 with (go_at_call 19; obtain ⟨r, hr1, hr2, hr3⟩ := bounds_of (t := t) (by rw [E7.out.1]; exact HWH.out) HX0.out HXZ.out (by rw [HH.out.len]; exact HZN.out); refine (bounds_any t r u2 T2.out.c hr1 (by rw [hr2]; have := (HH.out.small.2 x0 (List.mem_of_getElem? HX0.out)).1; omega) (by rw [hr3]; have := (HH.out.small.2 xz (List.mem_of_getElem? HXZ.out)).1; omega)).mono ?_; rintro e w9 ⟨⟨la9, lc9, ll9⟩, hi9, hlo, hhi, rfl, rlo, rhi, hb⟩; have R9 := Lib.hid rlo; have B9 := Lib.hid hb; unfold Sl.val; clear hr1 hr2 hr3 hlo hhi rlo rhi hb)
          try simp only at R9
          try simp only
          obtain ⟨lon, hlon⟩ : ∃ q, ll9.length = q := ⟨_, rfl⟩
          rw [hlon]
          have HLON := Lib.hid hlon
          have lon9 : (lon : Int) ≤ 9223372036854775807 := by have := own_cap R9.out; rw [hlon] at this; omega
          clear hlon
          go_wp2_with fail
          go_loopw [183] (fun t183 wr => ∃ (k : Nat) (L' : List Int), k ≤ lon ∧ t183 = .int .i64 k ∧ Hid (L'.length = lon ∧ Row wr u2.heap.size la9 lc9 L' ∧ Below u2.heap.size u2 wr)) (fun t183 _ => lon - (intOf t183).toNat)
          case atStart => exact ⟨0, ll9, by omega, rfl, Lib.hid ⟨HLON.out, R9.out, B9.out⟩⟩
          case round =>
            obtain ⟨k, L', hk, rfl, hr⟩ := hrel
            by_cases hltk : k < lon
            · obtain ⟨qg, v, e, hx, cx, fx, hset⟩ := row_at hr.out.2.1 (k := k) (by rw [hr.out.1]; exact hltk)
              subst e
              have HSET := Lib.hid hset
              have HQG : Hid (u2.heap.size ≤ qg) := Lib.hid (own_in hr.out.2.1 _ rfl).1
              have i0 : (k : Int) < lon := by omega
              clear hset hx
              go_wp2_with fail
              go_roundw
              case rel => exact ⟨k + 1, _, by omega, by go_num, Lib.hid ⟨by rw [List.length_set]; exact hr.out.1, HSET.out _, ((Kp.of_below hr.out.2.2).set qg k _ (by have := HQG.out; omega)).below (fun _ hk => hk)⟩⟩
              case measure => simp [intOf]; omega
            · obtain rfl : k = lon := by omega
              clear hltk
              generalize wr = u3 at hr ⊢
              have BU3 : Hid (Below w.heap.size w u3) := Lib.hid (BU2.out.trans (hr.out.2.2.mono BU2.out.size))
              have T3 : Hid (TabAt u3 t) := Lib.hid (T2.out.kept hr.out.2.2)
              have HM3 : Hid (t.mb < u3.heap.size) := Lib.hid (by have := HM2.out; have := hr.out.2.2.size; omega)
              clear hr
              go_upto_region 47 with fail
              go_cut [196] from 195 to 196 (fun t196 wx => t196 = .func (.func 52) #[] #[.pointer (some ⟨u3.heap.size, 0, none⟩), .pointer (some ⟨u3.heap.size + 1, 0, none⟩), .pointer (some ⟨u3.heap.size + 2, 0, none⟩)] ∧ Hid (Below u3.heap.size u3 wx ∧ wx.heap[u3.heap.size]? = some (.cells #[.pointer (some ⟨t.b, 0, none⟩)] 37 (0, 0)) ∧ ∃ lo hi : Sl, lo.l = [] ∧ hi.l = [] ∧ wx.heap[u3.heap.size + 1]? = some (.cells #[lo.val] 42 (0, 0)) ∧ wx.heap[u3.heap.size + 2]? = some (.cells #[hi.val] 42 (0, 0)) ∧ Row wx u3.heap.size lo.a lo.c lo.l ∧ Row wx u3.heap.size hi.a hi.c hi.l))
              case first =>
                go_wp2_with (go_at_call 30; refine (entries_any (some ⟨t.b, 0, none⟩) none none [] [] 0 0 0 0 u3 (in_nil _) (in_nil _) (by decide) (by decide)).mono ?_; rintro e w10 ⟨rfl, h10⟩; have HE10 := Lib.hid h10; clear h10)
                go_meet
                exact ⟨rfl, HE10⟩
              case rest =>
                obtain ⟨rfl, hE⟩ := hcut
                generalize wc = w10 at hE ⊢
                obtain ⟨b10, g10, lo2, hi2, hlo2, hhi2, e1, e2, rl, rh⟩ := hE.out
                have b10s := b10.size
                obtain ⟨l6r, hrr⟩ : ∃ M, ers l = M := ⟨_, rfl⟩
                have HOR : Hid (rangeP t.tb lo2.l hi2.l = (l6r, false)) := Lib.hid (by rw [hlo2, hhi2, E7.out.1, HWH.out.range [] [], rangeE_all HGD.out, hrr])
                have H10 : Hid (TabAt w10 t ∧ t.mb < u3.heap.size ∧ Below w.heap.size w w10) := Lib.hid ⟨T3.out.kept b10, HM3.out, BU3.out.trans (b10.mono BU3.out.size)⟩
                have G10 := Lib.hid (And.intro g10 (And.intro e1 (And.intro e2 (And.intro rl rh))))
                have YL : Hid (Byt lo2.l ∧ Byt hi2.l) := Lib.hid (by rw [hlo2, hhi2]; exact ⟨fun x hx => (List.not_mem_nil hx).elim, fun x hx => (List.not_mem_nil hx).elim⟩)
                have HMN : Hid (l6r ≠ []) := Lib.hid (by rw [← hrr]; exact HNE.out)
                clear b10 g10 e1 e2 rl rh hlo2 hhi2 hrr
                go_wp2_with fail
                refine (wpIn_wide (n := 12)).1 ?_
                refine once_any (t := t) (H := u3.heap.size) rfl G10.out.1 G10.out.2.1 G10.out.2.2.1 G10.out.2.2.2.1 G10.out.2.2.2.2 YL.out.1 YL.out.2 H10.out.1 H10.out.2.1 HOR.out HMN.out HRL.out ?_
                intro u4 hTw4 hTA4 hdef4
                obtain ⟨L, hL⟩ : ∃ L, w10.heap.size = L := ⟨_, rfl⟩
                rw [hL] at hdef4 ⊢
                have HD4 := Lib.hid hdef4
                have T4 := Lib.hid hTA4
                have HL4 : Hid (u3.heap.size ≤ L) := Lib.hid (by rw [← hL]; exact b10s)
                have BU4 : Hid (Below w.heap.size w u4) := Lib.hid (H10.out.2.2.trans (hTw4.below (by have := HMB.out; omega) H10.out.2.2.size))
                clear hTw4 hTA4 hdef4 hL
                go_upto_region 49 with (go_at_call 18; refine (all_whole (HH.out.kept BU4.out) T4.out (by rw [E7.out.1]; exact HWH.out) HGD.out).mono ?_; rintro e w11 ⟨l6, A6, c6, he6, rfl, r6, m6, t6, tw6⟩; have E11 : Hid (ers l6 = ers l ∧ Lies w11 A6 (evals l6) ∧ EIns w11 l6) := Lib.hid ⟨he6, r6.lies, m6.ins (by rw [he6]; exact HH.out.byl)⟩; have B11 : Hid (Below w.heap.size w w11) := Lib.hid (BU4.out.trans (t6.below (by have := HMB.out; omega) BU4.out.size)); have HD11 : Hid (w11.heap[L]? = some (.deferred (some []))) := Lib.hid (t6.obj HD4.out (by have := HM3.out; have := HL4.out; omega)); clear he6 r6 m6 t6 tw6)
                have HSX : Hid (∀ W, Below w11.heap.size w11 W → (W.cell? ad = some (.slice x0.k.a k0 x0.k.c) ∧ W.cell? (ad.add (z * 4)) = some (.slice xz.k.a kz xz.k.c)) ∧ (convert 42 9 (.slice x0.k.a k0 x0.k.c)).run Tryz.prog W = .ok (.string (strOfNums x0.k.l)) W ∧ (convert 42 9 (.slice xz.k.a kz xz.k.c)).run Tryz.prog W = .ok (.string (strOfNums xz.k.l)) W) := Lib.hid (fun W hb => by
                  have hL := HH.out.kept (B11.out.trans (hb.mono B11.out.size))
                  have h0 := (lies_entry_at hL.lies HX0.out).1
                  have hz := (lies_entry_at hL.lies HXZ.out).1
                  have i0 := (hL.ins x0 (List.mem_of_getElem? HX0.out)).1
                  have iz := (hL.ins xz (List.mem_of_getElem? HXZ.out)).1
                  have e0 : ad.add (0 * 4) = ad := by
                    obtain ⟨a, b, c⟩ := ad
                    rfl
                  rw [e0] at h0
                  rw [HK0.out.1] at h0
                  rw [HK0.out.2] at hz
                  exact ⟨⟨h0, hz⟩, conv_any i0.bys k0 _ HK0.out.1, conv_any iz.bys kz _ HK0.out.2⟩)
                have HSM : Hid (∀ W, Below w11.heap.size w11 W → Calls Tryz.prog 20 #[.slice A6 n c6, .slice (some ad) n c] W fun e w' => e = .returned (.bool true) ∧ Below W.heap.size W w') := Lib.hid (fun W hb => by
                  have hL := HH.out.kept (B11.out.trans (hb.mono B11.out.size))
                  have := refSame_any A6 (some ad) l6 l n n c6 c W (by rw [← ers_len, E11.out.1, ers_len, HH.out.len]) HH.out.len (E11.out.2.1.kept hb) hL.lies (E11.out.2.2.kept hb) hL.ins (by have := HH.out.small.1; omega)
                  rwa [decide_eq_true E11.out.1] at this)
                have HLS : Hid (∀ W, Calls Tryz.prog 31 #[.string (strOfNums x0.k.l), .string (strOfNums xz.k.l)] W fun e w' => e = .returned (.int .i64 cz) ∧ ∃ k, w' = W.drewN k) := Lib.hid (fun W => by
                  have := less_bytes x0.k.l xz.k.l W (HH.out.ins x0 (List.mem_of_getElem? HX0.out)).1.byt (HH.out.ins xz (List.mem_of_getElem? HXZ.out)).1.byt (by have := (HH.out.small.2 x0 (List.mem_of_getElem? HX0.out)).1; omega) (by have := (HH.out.small.2 xz (List.mem_of_getElem? HXZ.out)).1; omega)
                  rwa [HCZ.out.1] at this)
                have HZ2 : Hid (IntKind.i64.wrap ((n : Int) - 1) = z) := Lib.hid (by have := HZN.out; have := HH.out.small.1; rw [IntKind.wrap_i64]; omega)
                have j0 : (z : Int) < n := by have := HZN.out; omega
                have n0 : n ≠ 0 := by have := HZN.out; omega
                have n1 : 0 < n := by omega
                have n2 : (0 : Int) < n := by omega
                have dz : decide (cz ≤ 0) = true := decide_eq_true HCZ.out.2
                refine wp_region_noPanic ?_
                refine wp_region_held (S := fun W => (W.cell? ad = some (.slice x0.k.a k0 x0.k.c) ∧ W.cell? (ad.add (z * 4)) = some (.slice xz.k.a kz xz.k.c)) ∧ (convert 42 9 (.slice x0.k.a k0 x0.k.c)).run Tryz.prog W = .ok (.string (strOfNums x0.k.l)) W ∧ (convert 42 9 (.slice xz.k.a kz xz.k.c)).run Tryz.prog W = .ok (.string (strOfNums xz.k.l)) W) (by kernel_rfl) ?_
                change wpAnyH _ _ _ _ _ _ _ _ (World.drew _)
                have s0 := HSX.out _ (Below.refl _ _).drew
                refine wpAnyH_take (i := 0) (v := .int .i64 0) rfl (by kernel_rfl) (by kernel_rfl) (by kernel_rfl) (fun _ _ _ h => h) (Or.inl ⟨by first | kernel_rfl | rfl, fun _ hS => by go_simp⟩) s0 ?_
                try simp only [Act.put, List.getElem_toArray, List.getElem_cons_zero, List.getElem_cons_succ, List.setIfInBounds_toArray, List.set_cons_zero, List.set_cons_succ]
                refine wpAnyH_take (i := 1) (v := .bool true) rfl (by kernel_rfl) (by kernel_rfl) (by kernel_rfl) (fun _ _ _ h => h) (Or.inl ⟨by first | kernel_rfl | rfl, fun _ hS => by go_simp⟩) s0 ?_
                try simp only [Act.put, List.getElem_toArray, List.getElem_cons_zero, List.getElem_cons_succ, List.setIfInBounds_toArray, List.set_cons_zero, List.set_cons_succ]
                refine wpAnyH_take (i := 2) (v := .bool true) rfl (by kernel_rfl) (by kernel_rfl) (by kernel_rfl) (fun _ _ _ h => h) (Or.inl ⟨by first | kernel_rfl | rfl, fun _ hS => by go_simp⟩) s0 ?_
                try simp only [Act.put, List.getElem_toArray, List.getElem_cons_zero, List.getElem_cons_succ, List.setIfInBounds_toArray, List.set_cons_zero, List.set_cons_succ]
                refine wpAnyH_take (i := 3) (v := .slice A6 n c6) rfl (by kernel_rfl) (by kernel_rfl) (by kernel_rfl) (fun _ _ _ h => h) (Or.inl ⟨by first | kernel_rfl | rfl, fun _ hS => by go_simp⟩) s0 ?_
                try simp only [Act.put, List.getElem_toArray, List.getElem_cons_zero, List.getElem_cons_succ, List.setIfInBounds_toArray, List.set_cons_zero, List.set_cons_succ]
                refine wpAnyH_take (i := 4) (v := .slice (some ad) n c) rfl (by kernel_rfl) (by kernel_rfl) (by kernel_rfl) (fun _ _ _ h => h) (Or.inl ⟨by first | kernel_rfl | rfl, fun _ hS => by go_simp⟩) s0 ?_
                try simp only [Act.put, List.getElem_toArray, List.getElem_cons_zero, List.getElem_cons_succ, List.setIfInBounds_toArray, List.set_cons_zero, List.set_cons_succ]
                refine wpAnyH_ready (rs := [5]) (by kernel_rfl) (by simp) ?_
                refine AllReadyH.cons rfl (fun K hK => ?_) AllReadyH.nil
                go_simp
                go_at_call 20
                refine (HSM.out _ (Below.refl _ _).drew).mono ?_
                rintro e w12 ⟨rfl, hb⟩
                have B12 : Hid (Below w11.heap.size w11 w12) := Lib.hid (below_then (Below.refl _ _).drew hb)
                clear hb
                refine hK.out _ _ (HSX.out _ B12.out) (fun _ => ?_)
                clear hK K
                try simp only [Act.put, List.getElem_toArray, List.getElem_cons_zero, List.getElem_cons_succ, List.setIfInBounds_toArray, List.set_cons_zero, List.set_cons_succ]
                have s1 := HSX.out _ B12.out
                refine wpAnyH_take (i := 6) (v := .bool true) rfl (by kernel_rfl) (by kernel_rfl) (by kernel_rfl) (fun _ _ _ h => h) (Or.inl ⟨by first | kernel_rfl | rfl, fun _ hS => by go_simp⟩) s1 ?_
                try simp only [Act.put, List.getElem_toArray, List.getElem_cons_zero, List.getElem_cons_succ, List.setIfInBounds_toArray, List.set_cons_zero, List.set_cons_succ]
                refine wpAnyH_take (i := 7) (v := .bool true) rfl (by kernel_rfl) (by kernel_rfl) (by kernel_rfl) (fun _ _ _ h => h) (Or.inl ⟨by first | kernel_rfl | rfl, fun _ hS => by go_simp⟩) s1 ?_
                try simp only [Act.put, List.getElem_toArray, List.getElem_cons_zero, List.getElem_cons_succ, List.setIfInBounds_toArray, List.set_cons_zero, List.set_cons_succ]
                refine wpAnyH_take (i := 8) (v := .slice (some ad) n c) rfl (by kernel_rfl) (by kernel_rfl) (by kernel_rfl) (fun _ _ _ h => h) (Or.inl ⟨by first | kernel_rfl | rfl, fun _ hS => by go_simp⟩) s1 ?_
                try simp only [Act.put, List.getElem_toArray, List.getElem_cons_zero, List.getElem_cons_succ, List.setIfInBounds_toArray, List.set_cons_zero, List.set_cons_succ]
                refine wpAnyH_take (i := 9) (v := .pointer (some ad)) rfl (by kernel_rfl) (by kernel_rfl) (by kernel_rfl) (fun _ _ _ h => h) (Or.inl ⟨by first | kernel_rfl | rfl, fun _ hS => by go_simp⟩) s1 ?_
                try simp only [Act.put, List.getElem_toArray, List.getElem_cons_zero, List.getElem_cons_succ, List.setIfInBounds_toArray, List.set_cons_zero, List.set_cons_succ]
                refine wpAnyH_take (i := 10) (v := .pointer (some ad)) rfl (by kernel_rfl) (by kernel_rfl) (by kernel_rfl) (fun _ _ _ h => h) (Or.inl ⟨by first | kernel_rfl | rfl, fun _ hS => by go_simp⟩) s1 ?_
                try simp only [Act.put, List.getElem_toArray, List.getElem_cons_zero, List.getElem_cons_succ, List.setIfInBounds_toArray, List.set_cons_zero, List.set_cons_succ]
                refine wpAnyH_take (i := 11) (v := .slice x0.k.a k0 x0.k.c) rfl (by kernel_rfl) (by kernel_rfl) (by kernel_rfl) (fun _ _ _ h => h) (Or.inl ⟨by first | kernel_rfl | rfl, fun _ hS => by obtain ⟨⟨k1, k2⟩, k3, k4⟩ := hS; go_simp⟩) s1 ?_
                try simp only [Act.put, List.getElem_toArray, List.getElem_cons_zero, List.getElem_cons_succ, List.setIfInBounds_toArray, List.set_cons_zero, List.set_cons_succ]
                refine wpAnyH_take (i := 12) (v := .string (strOfNums x0.k.l)) rfl (by kernel_rfl) (by kernel_rfl) (by kernel_rfl) (fun _ _ _ h => h) (Or.inl ⟨by first | kernel_rfl | rfl, fun _ hS => by obtain ⟨⟨k1, k2⟩, k3, k4⟩ := hS; go_simp⟩) s1 ?_
                try simp only [Act.put, List.getElem_toArray, List.getElem_cons_zero, List.getElem_cons_succ, List.setIfInBounds_toArray, List.set_cons_zero, List.set_cons_succ]
                refine wpAnyH_take (i := 13) (v := .slice (some ad) n c) rfl (by kernel_rfl) (by kernel_rfl) (by kernel_rfl) (fun _ _ _ h => h) (Or.inl ⟨by first | kernel_rfl | rfl, fun _ hS => by go_simp⟩) s1 ?_
                try simp only [Act.put, List.getElem_toArray, List.getElem_cons_zero, List.getElem_cons_succ, List.setIfInBounds_toArray, List.set_cons_zero, List.set_cons_succ]
                refine wpAnyH_take (i := 14) (v := .slice (some ad) n c) rfl (by kernel_rfl) (by kernel_rfl) (by kernel_rfl) (fun _ _ _ h => h) (Or.inl ⟨by first | kernel_rfl | rfl, fun _ hS => by go_simp⟩) s1 ?_
                try simp only [Act.put, List.getElem_toArray, List.getElem_cons_zero, List.getElem_cons_succ, List.setIfInBounds_toArray, List.set_cons_zero, List.set_cons_succ]
                refine wpAnyH_take (i := 15) (v := .int .i64 (n : Int)) rfl (by kernel_rfl) (by kernel_rfl) (by kernel_rfl) (fun _ _ _ h => h) (Or.inl ⟨by first | kernel_rfl | rfl, fun _ hS => by go_simp⟩) s1 ?_
                try simp only [Act.put, List.getElem_toArray, List.getElem_cons_zero, List.getElem_cons_succ, List.setIfInBounds_toArray, List.set_cons_zero, List.set_cons_succ]
                refine wpAnyH_take (i := 16) (v := .int .i64 (z : Int)) rfl (by kernel_rfl) (by kernel_rfl) (by kernel_rfl) (fun _ _ _ h => h) (Or.inl ⟨by first | kernel_rfl | rfl, fun _ hS => by go_simp; exact HZ2.out⟩) s1 ?_
                try simp only [Act.put, List.getElem_toArray, List.getElem_cons_zero, List.getElem_cons_succ, List.setIfInBounds_toArray, List.set_cons_zero, List.set_cons_succ]
                refine wpAnyH_take (i := 17) (v := .pointer (some (ad.add (z * 4)))) rfl (by kernel_rfl) (by kernel_rfl) (by kernel_rfl) (fun _ _ _ h => h) (Or.inl ⟨by first | kernel_rfl | rfl, fun _ hS => by go_simp⟩) s1 ?_
                try simp only [Act.put, List.getElem_toArray, List.getElem_cons_zero, List.getElem_cons_succ, List.setIfInBounds_toArray, List.set_cons_zero, List.set_cons_succ]
                refine wpAnyH_take (i := 18) (v := .pointer (some (ad.add (z * 4)))) rfl (by kernel_rfl) (by kernel_rfl) (by kernel_rfl) (fun _ _ _ h => h) (Or.inl ⟨by first | kernel_rfl | rfl, fun _ hS => by go_simp⟩) s1 ?_
                try simp only [Act.put, List.getElem_toArray, List.getElem_cons_zero, List.getElem_cons_succ, List.setIfInBounds_toArray, List.set_cons_zero, List.set_cons_succ]
                refine wpAnyH_take (i := 19) (v := .slice xz.k.a kz xz.k.c) rfl (by kernel_rfl) (by kernel_rfl) (by kernel_rfl) (fun _ _ _ h => h) (Or.inl ⟨by first | kernel_rfl | rfl, fun _ hS => by obtain ⟨⟨k1, k2⟩, k3, k4⟩ := hS; go_simp⟩) s1 ?_
                try simp only [Act.put, List.getElem_toArray, List.getElem_cons_zero, List.getElem_cons_succ, List.setIfInBounds_toArray, List.set_cons_zero, List.set_cons_succ]
                refine wpAnyH_take (i := 20) (v := .string (strOfNums xz.k.l)) rfl (by kernel_rfl) (by kernel_rfl) (by kernel_rfl) (fun _ _ _ h => h) (Or.inl ⟨by first | kernel_rfl | rfl, fun _ hS => by obtain ⟨⟨k1, k2⟩, k3, k4⟩ := hS; go_simp⟩) s1 ?_
                try simp only [Act.put, List.getElem_toArray, List.getElem_cons_zero, List.getElem_cons_succ, List.setIfInBounds_toArray, List.set_cons_zero, List.set_cons_succ]
                refine wpAnyH_ready (rs := [21]) (by kernel_rfl) (by simp) ?_
                refine AllReadyH.cons rfl (fun K hK => ?_) AllReadyH.nil
                go_simp
                go_at_call 31
                refine (HLS.out _).mono ?_
                rintro e w13 ⟨rfl, q13, hw13⟩
                have B13 : Hid (Below w11.heap.size w11 w13) := Lib.hid (by rw [hw13]; exact below_drewN B12.out q13)
                clear hw13
                refine hK.out _ _ (HSX.out _ B13.out) (fun _ => ?_)
                clear hK K
                try simp only [Act.put, List.getElem_toArray, List.getElem_cons_zero, List.getElem_cons_succ, List.setIfInBounds_toArray, List.set_cons_zero, List.set_cons_succ]
                have s2 := HSX.out _ B13.out
                refine wpAnyH_take (i := 22) (v := .bool true) rfl (by kernel_rfl) (by kernel_rfl) (by kernel_rfl) (fun _ _ _ h => h) (Or.inl ⟨by first | kernel_rfl | rfl, fun _ hS => by go_simp⟩) s2 ?_
                try simp only [Act.put, List.getElem_toArray, List.getElem_cons_zero, List.getElem_cons_succ, List.setIfInBounds_toArray, List.set_cons_zero, List.set_cons_succ]
                refine wpAnyH_take (i := 23) (v := .bool true) rfl (by kernel_rfl) (by kernel_rfl) (by kernel_rfl) (fun _ _ _ h => h) (Or.inl ⟨by first | kernel_rfl | rfl, fun _ hS => by go_simp⟩) s2 ?_
                try simp only [Act.put, List.getElem_toArray, List.getElem_cons_zero, List.getElem_cons_succ, List.setIfInBounds_toArray, List.set_cons_zero, List.set_cons_succ]
                refine wpAnyH_take (i := 24) (v := .bool true) rfl (by kernel_rfl) (by kernel_rfl) (by kernel_rfl) (fun _ _ _ h => h) (Or.inl ⟨by first | kernel_rfl | rfl, fun _ hS => by go_simp⟩) s2 ?_
                try simp only [Act.put, List.getElem_toArray, List.getElem_cons_zero, List.getElem_cons_succ, List.setIfInBounds_toArray, List.set_cons_zero, List.set_cons_succ]
                refine wpAnyH_done (by kernel_rfl) (NoPanic.normal ?_) _
                try simp only [Act.put, List.getElem_toArray, List.getElem_cons_zero, List.getElem_cons_succ, List.setIfInBounds_toArray, List.set_cons_zero, List.set_cons_succ]
                go_wp2_with fail
                have hK : w13.heap[L]? = some (.deferred (some [])) := obj_kept HD11.out B13.out (Nat.le_refl _)
                have HB13 : Hid (Below w.heap.size w (w13.putObj L (.deferred none))) := Lib.hid (by
                  have b := B11.out.trans (B13.out.mono B11.out.size)
                  have hs := BU3.out.size
                  have hl := HL4.out
                  exact ⟨b.os, b.tape, b.output, Nat.le_trans b.size (grownBy_putObj' w13 L (.deferred none)).size, fun k hk => (World.putObj_heap_other (by omega)).trans (b.block k hk)⟩)
                refine ⟨by simp, .inl ⟨_, _, rfl, run_takeDeferred hK, ?_⟩⟩
                refine ⟨.bool true, ?_, rfl, HB13.out⟩
                simp [results, Tryz.f8, go_sem]
end Go.Proofs.YtmgggddnfeojmaaGreat
