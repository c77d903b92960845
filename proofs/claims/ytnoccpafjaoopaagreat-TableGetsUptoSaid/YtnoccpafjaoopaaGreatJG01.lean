/-
  TableGets: walks of the law itself.
-/
import Derived.Test.YtnoccpafjaoopaaGreatJ25
import Derived.Test.YtnoccpafjaoopaaGreatJ26
import Derived.Test.YtnoccpafjaoopaaGreatJG00
set_option linter.unusedSimpArgs false
set_option linter.unusedVariables false
namespace Go.Proofs.YtnoccpafjaoopaaGreat
open Go.RowKit
open Go.Maps
theorem way_size (b : Int) : ∃ size : Nat, wrap64 (1 + wrap64 ((IntKind.u64.wrap b).tmod 1024)) = (size : Int) ∧ 1 ≤ size ∧ size ≤ 1024 := by
  have h0 : 0 ≤ IntKind.u64.wrap b := by simp [IntKind.wrap, IntKind.bits, IntKind.signed]; omega
  have h1 : 0 ≤ (IntKind.u64.wrap b).tmod 1024 := Int.tmod_nonneg _ h0
  have h2 : (IntKind.u64.wrap b).tmod 1024 < 1024 := Int.tmod_lt_of_pos _ (by omega)
  generalize (IntKind.u64.wrap b).tmod 1024 = x at h1 h2
  refine ⟨(1 + x).toNat, ?_, by omega, by omega⟩
  unfold wrap64
  omega
theorem four_facts {W : World} {z : Nat} {a b c d : Value} {t : TypeId} (h : W.heap[z]? = some (.cells #[a, b, c, d] t (0, 0))) : (W.cell? ⟨z, 0, none⟩ = some a ∧ W.cell? ⟨z, 1, none⟩ = some b ∧ W.cell? ⟨z, 2, none⟩ = some c ∧ W.cell? ⟨z, 3, none⟩ = some d) ∧ W.frozen? ⟨z, 0, none⟩ = false ∧ W.frozen? ⟨z, 1, none⟩ = false ∧ W.frozen? ⟨z, 2, none⟩ = false ∧ W.frozen? ⟨z, 3, none⟩ = false := by
  refine ⟨⟨?_, ?_, ?_, ?_⟩, ?_, ?_, ?_, ?_⟩ <;> simp [World.cell?, World.frozen?, h]
/-- What Get answers of a whole table. -/
def AnsW (L : List Er) (K : List Int) (s : Int) (y : En) (b : Bool) : Prop := (b = true ∧ getE L K s = some y.rd) ∨ (b = false ∧ y = zeroEn ∧ getE L K s = none)
theorem getE_mem {L : List Er} {K : List Int} {s : Int} {x : Er} (h : getE L K s = some x) : x ∈ L := by
  unfold getE at h
  exact List.mem_of_find?_eq_some h
theorem get_whole (l : List En) (t : Tm) (A : Option Addr) (K : List Int) (n c : Nat) (s : Int) (w W : World) (ht : TabAt w t) (hb : Below w.heap.size w W) (hW : Whole (ers l) t.tb) (hl : l.length ≤ 1048576) (hL : ByL (ers l)) (hn : K.length = n) (hk : Row W w.heap.size A c K) (hB : Byt K) (w0 : World) (h0 : Below w0.heap.size w0 w) (hm0 : w0.heap.size ≤ t.mb) :
    Calls Tryz.prog 23 #[.pointer (some ⟨t.b, 0, none⟩), .slice A n c, .int .i64 s] W fun e w' => ∃ (y : En) (b : Bool), AnsW (ers l) K s y b ∧ e = .returned (.tuple #[.agg #[.slice y.k.a y.k.l.length y.k.c, .int .i64 y.s, .bool y.d, .slice y.v.a y.v.l.length y.v.c], .bool b, .int .i64 0]) ∧ EIn w' y ∧ Row w' W.heap.size y.k.a y.k.c y.k.l ∧ Row w' W.heap.size y.v.a y.v.c y.v.l ∧ Tw t.mb W w' ∧ TabW (fun g => w.heap.size ≤ g ∧ g < W.heap.size) w' t ∧ Below w0.heap.size w0 w' := by
  subst hn
  have hm : t.mb < w.heap.size := by obtain ⟨es, ck, hm⟩ := ht.mapAt; exact (Array.getElem?_eq_some_iff.1 hm).1
  have hfew := hW.few
  rw [ers_len] at hfew
  refine (GetX.get_any w.heap.size t ⟨A, c, K⟩ s W ((ht.w (fun g hg h => by omega)).kept hb) hm hb.size (hk.in_ hB) (by simp only [Tm.tb, List.length_map] at hfew; omega)).mono ?_
  rintro e w' ⟨y, b, er, ha, he, r1, r2, h1, h2⟩
  have hg := hW.get K s
  have hA : AnsW (ers l) K s y b ∧ er = 0 := by
    rcases ha with ⟨q1, q2, q3⟩ | ⟨q1, q2, q3, q4⟩
    · rw [hg] at q1
      injection q1 with q1 q5
      exact ⟨.inl ⟨q2, q1⟩, q3⟩
    · rw [hg] at q1 q4
      exact ⟨.inr ⟨q3, q2, q1⟩, by simpa using q4⟩
  obtain ⟨hA, rfl⟩ := hA
  refine ⟨y, b, hA, he, ?_, r1, r2, h1, h2, (h0.trans (hb.mono h0.size)).trans (h1.below hm0 (Nat.le_trans h0.size hb.size))⟩
  rcases hA with ⟨-, q⟩ | ⟨-, rfl, -⟩
  · have := hL _ (getE_mem q)
    exact ⟨r1.in_ this.1, r2.in_ this.2⟩
  · exact ⟨in_nil _, in_nil _⟩
/-- All of a range of a whole table. -/
theorem all_look (l : List En) (t : Tm) (A B : Option Addr) (Lo Hi : List Int) (n m c d : Nat) (w0 wd W : World) (ht : TabAt wd t) (hb : Below wd.heap.size wd W) (hW : Whole (ers l) t.tb) (hl : l.length ≤ 1048576) (hL : ByL (ers l)) (r1 : Row W wd.heap.size A c Lo) (r2 : Row W wd.heap.size B d Hi) (hB1 : Byt Lo) (hB2 : Byt Hi) (hn : Lo.length = n) (hm : Hi.length = m) (n9 : n ≤ 1048576) (m9 : m ≤ 1048576) (h0 : Below w0.heap.size w0 wd) (hm0 : w0.heap.size ≤ t.mb) :
    Calls Tryz.prog 18 #[.pointer (some ⟨t.b, 0, none⟩), .slice A n c, .slice B m d] W fun e w' => ∃ (l' : List En) (A' : Option Addr) (z c' : Nat), l'.length = z ∧ ers l' = rangeE (ers l) Lo Hi ∧ e = .returned (.tuple #[.slice A' z c', .int .i64 0]) ∧ Lies w' A' (evals l') ∧ EIns w' l' ∧ z ≤ 1048576 ∧ Below w0.heap.size w0 w' ∧ Tw t.mb wd w' := by
  subst hn hm
  have hfew := hW.few
  rw [ers_len] at hfew
  have hr := hW.range Lo Hi
  have hlen : (rangeE (ers l) Lo Hi).length ≤ l.length := by
    have := List.length_filter_le (inE Lo Hi) (ers l)
    rw [ers_len] at this
    exact this
  refine (all_any t A B Lo Hi _ _ c d W (ht.kept hb) (r1.in_ hB1) (r2.in_ hB2) (by omega) (by omega) (by simp only [Tm.tb, List.length_map] at hfew; omega) (by rw [hr]; simp only; omega)).mono ?_
  rintro e w' ⟨l', A', c', h1, rfl, h3, h4, h5, -⟩
  rw [hr] at h1 ⊢
  simp only at h1
  refine ⟨l', A', l'.length, c', rfl, h1, rfl, h3.lies, h4.ins (fun p hp => hL _ (List.mem_filter.1 (by rw [h1] at hp; exact hp : p ∈ List.filter _ _)).1), by rw [← ers_len, h1]; omega, (h0.trans (hb.mono h0.size)).trans (h5.below hm0 (Nat.le_trans h0.size hb.size)), (Tw.of_below hb).trans h5⟩
/-- The answer of Get, as it is laid. -/
def LaidX (l : List En) (K : List Int) (s : Int) (t : Tm) (w0 : World) (xb : Nat) (y : En) (b : Bool) (W : World) : Prop := AnsW (ers l) K s y b ∧ W.heap[xb]? = some (.cells #[.slice y.k.a y.k.l.length y.k.c, .int .i64 y.s, .bool y.d, .slice y.v.a y.v.l.length y.v.c] 48 (0, 0)) ∧ EIn W y ∧ TabAt W t ∧ Below w0.heap.size w0 W
theorem x_new {l : List En} {K : List Int} {s : Int} {t : Tm} {w0 w8 : World} {y : En} {b : Bool} (ha : AnsW (ers l) K s y b) (he : EIn w8 y) (ht : TabAt w8 t) (h0 : Below w0.heap.size w0 w8) : LaidX l K s t w0 w8.heap.size y b (w8.alloc (.cells #[.slice y.k.a y.k.l.length y.k.c, .int .i64 y.s, .bool y.d, .slice y.v.a y.v.l.length y.v.c] 48)) :=
  ⟨ha, heap_alloc_new w8 _, he.kept (below_new w8 _), ht.kept (below_new w8 _), h0.trans ((below_new w8 _).mono h0.size)⟩
theorem x_old {l : List En} {K : List Int} {s : Int} {t : Tm} {w0 w6 Wg w8 : World} {xb : Nat} {y : En} {b : Bool} {a0 a1 a2 a3 : Value} (ha : AnsW (ers l) K s y b) (hL : ByL (ers l)) (hx : w8.heap[xb]? = some (.cells #[a0, a1, a2, a3] 48 (0, 0))) (hT : TabW (fun g => w6.heap.size ≤ g ∧ g < Wg.heap.size) w8 t) (hm : t.mb < w6.heap.size) (r1 : Row w8 Wg.heap.size y.k.a y.k.c y.k.l) (r2 : Row w8 Wg.heap.size y.v.a y.v.c y.v.l) (hlo : w6.heap.size ≤ xb) (hhi : xb < Wg.heap.size) (h6 : w0.heap.size ≤ w6.heap.size) (h0 : Below w0.heap.size w0 w8) :
    LaidX l K s t w0 xb y b ((((w8.setCell ⟨xb, 0, none⟩ (.slice y.k.a y.k.l.length y.k.c)).setCell ⟨xb, 1, none⟩ (.int .i64 y.s)).setCell ⟨xb, 2, none⟩ (.bool y.d)).setCell ⟨xb, 3, none⟩ (.slice y.v.a y.v.l.length y.v.c)) := by
  have kp := set_four_kp (Kp.refl (fun j => j ≠ xb) w8) xb (.slice y.k.a y.k.l.length y.k.c) (.int .i64 y.s) (.bool y.d) (.slice y.v.a y.v.l.length y.v.c) (by simp)
  have k1 := own_kp r1 kp (fun ad h => by have := (own_in r1 ad h).1; omega)
  have k2 := own_kp r2 kp (fun ad h => by have := (own_in r2 ad h).1; omega)
  refine ⟨ha, set_four hx, ?_, (hT.turn (S' := fun g => w6.heap.size ≤ g ∧ g < Wg.heap.size) (fun g o ho hn => ⟨(kp.block g (fun e => hn (by omega))).trans ho, hn⟩) (fun h => by omega)).at_, h0.trans (kp.below (fun k hk => by omega))⟩
  rcases ha with ⟨-, q⟩ | ⟨-, rfl, -⟩
  · have := hL _ (getE_mem q)
    exact ⟨Row.in_ k1 this.1, Row.in_ k2 this.2⟩
  · exact ⟨in_nil _, in_nil _⟩
set_option maxRecDepth 100000 in
set_option maxHeartbeats 8000000 in
theorem lawGets (A : Option Addr) (l : List En) (n c : Nat) (b : Int) (kx lx hx : Sl) (s : Int) (w : World) (h : LIn w A l n c) (hk : In w kx.a kx.l kx.l.length kx.c) (hl : In w lx.a lx.l lx.l.length lx.c) (hh : In w hx.a hx.l hx.l.length hx.c) (k9 : kx.l.length ≤ 1048576) (l9 : lx.l.length ≤ 1048576) (h9 : hx.l.length ≤ 1048576) :
    Calls Tryz.prog 4 #[.slice A n c, .int .i64 b, .agg #[kx.val, lx.val, hx.val, .int .i64 s]] w fun e w' => e = .returned (.bool true) ∧ Below w.heap.size w w' := by
  have HH := Lib.hid h
  have HKL := Lib.hid (And.intro hk (And.intro hl hh))
  have HK9 := Lib.hid (And.intro k9 (And.intro l9 h9))
  obtain ⟨od, hod⟩ : ∃ od, decide (OrdL (ers l)) = od := ⟨_, rfl⟩
  have HOD := Lib.hid hod
  have hln := h.len
  obtain ⟨kn, hkn⟩ : ∃ q, kx.l.length = q := ⟨_, rfl⟩
  obtain ⟨ln, hlnn⟩ : ∃ q, lx.l.length = q := ⟨_, rfl⟩
  obtain ⟨hn, hhn⟩ : ∃ q, hx.l.length = q := ⟨_, rfl⟩
  have HLN := Lib.hid (And.intro hkn (And.intro hlnn hhn))
  unfold Sl.val
  rw [hkn, hlnn, hhn]
  clear hk hl hh k9 l9 h9 hkn hlnn hhn
  by_cases he : n = 0
  · have d3 : ((n : Int) == 0) = true := by simpa using he
    clear he hln hod h
    go_enter Tryz.func4, Tryz.ntmps4
    go_upto_region 1 with fail
    obtain ⟨wb, hwb⟩ : ∃ wb, w.alloc (.cells #[.slice kx.a kn kx.c, .slice lx.a ln lx.c, .slice hx.a hn hx.c, .int .i64 s] 51) = wb := ⟨_, rfl⟩
    have BX : Hid (Below w.heap.size w wb) := Lib.hid (hwb ▸ below_new w _)
    have HBX : Hid (∀ W, Below wb.heap.size wb W → W.cell? ⟨w.heap.size, 0, none⟩ = some (.slice kx.a kn kx.c) ∧ W.cell? ⟨w.heap.size, 1, none⟩ = some (.slice lx.a ln lx.c) ∧ W.cell? ⟨w.heap.size, 2, none⟩ = some (.slice hx.a hn hx.c) ∧ W.cell? ⟨w.heap.size, 3, none⟩ = some (.int .i64 s)) := Lib.hid (fun W hb => by
      have := obj_kept (by rw [← hwb]; exact heap_alloc_new w (.cells #[.slice kx.a kn kx.c, .slice lx.a ln lx.c, .slice hx.a hn hx.c, .int .i64 s] 51)) hb (Nat.le_refl _)
      refine ⟨?_, ?_, ?_, ?_⟩ <;> simp [World.cell?, this])
    rw [hwb]
    clear hwb
    go_wp2_with (go_at_call 9; refine (wakes_any _).mono ?_; rintro e w0 ⟨rfl, hb⟩; have B0 := Lib.hid (below_then BX.out hb); clear hb)
    go_ret
    exact ⟨rfl, B0.out⟩
  have d3 : ((n : Int) == 0) = false := by simpa using he
  have hne : ers l ≠ [] := fun e => he (by rw [← hln, ← ers_len, e]; rfl)
  cases od
  · clear he hln hod h hne
    go_enter Tryz.func4, Tryz.ntmps4
    go_upto_region 1 with fail
    obtain ⟨wb, hwb⟩ : ∃ wb, w.alloc (.cells #[.slice kx.a kn kx.c, .slice lx.a ln lx.c, .slice hx.a hn hx.c, .int .i64 s] 51) = wb := ⟨_, rfl⟩
    have BX : Hid (Below w.heap.size w wb) := Lib.hid (hwb ▸ below_new w _)
    have HBX : Hid (∀ W, Below wb.heap.size wb W → W.cell? ⟨w.heap.size, 0, none⟩ = some (.slice kx.a kn kx.c) ∧ W.cell? ⟨w.heap.size, 1, none⟩ = some (.slice lx.a ln lx.c) ∧ W.cell? ⟨w.heap.size, 2, none⟩ = some (.slice hx.a hn hx.c) ∧ W.cell? ⟨w.heap.size, 3, none⟩ = some (.int .i64 s)) := Lib.hid (fun W hb => by
      have := obj_kept (by rw [← hwb]; exact heap_alloc_new w (.cells #[.slice kx.a kn kx.c, .slice lx.a ln lx.c, .slice hx.a hn hx.c, .int .i64 s] 51)) hb (Nat.le_refl _)
      refine ⟨?_, ?_, ?_, ?_⟩ <;> simp [World.cell?, this])
    rw [hwb]
    clear hwb
    go_wp2_with (first
      | (go_at_call 9; refine (wakes_any _).mono ?_; rintro e w0 ⟨rfl, hb⟩; have B0 := Lib.hid (below_then BX.out hb); clear hb)
      | (go_at_call 14; refine (ordered_in (HH.out.kept B0.out)).mono ?_; rw [HOD.out]; rintro e w5 ⟨rfl, hb⟩; have B5 := Lib.hid (below_then B0.out hb); clear hb))
    go_ret
    exact ⟨rfl, B5.out⟩
  have ho : OrdL (ers l) := of_decide_eq_true hod
  have HO := Lib.hid ho
  have HNE := Lib.hid hne
  clear he hln hod h hne ho
  go_enter Tryz.func4, Tryz.ntmps4
  go_upto_region 1 with fail
  obtain ⟨wb, hwb⟩ : ∃ wb, w.alloc (.cells #[.slice kx.a kn kx.c, .slice lx.a ln lx.c, .slice hx.a hn hx.c, .int .i64 s] 51) = wb := ⟨_, rfl⟩
  have BX : Hid (Below w.heap.size w wb) := Lib.hid (hwb ▸ below_new w _)
  have HBX : Hid (∀ W, Below wb.heap.size wb W → W.cell? ⟨w.heap.size, 0, none⟩ = some (.slice kx.a kn kx.c) ∧ W.cell? ⟨w.heap.size, 1, none⟩ = some (.slice lx.a ln lx.c) ∧ W.cell? ⟨w.heap.size, 2, none⟩ = some (.slice hx.a hn hx.c) ∧ W.cell? ⟨w.heap.size, 3, none⟩ = some (.int .i64 s)) := Lib.hid (fun W hb => by
    have := obj_kept (by rw [← hwb]; exact heap_alloc_new w (.cells #[.slice kx.a kn kx.c, .slice lx.a ln lx.c, .slice hx.a hn hx.c, .int .i64 s] 51)) hb (Nat.le_refl _)
    refine ⟨?_, ?_, ?_, ?_⟩ <;> simp [World.cell?, this])
  have NB : Hid (w.heap.size < wb.heap.size) := Lib.hid (by rw [← hwb]; simp)
  rw [hwb]
  clear hwb
  go_upto_region 5 with (first
    | (go_at_call 9; refine (wakes_any _).mono ?_; rintro e w0 ⟨rfl, hb⟩; have B0 := Lib.hid (below_then BX.out hb); have Y0 := Lib.hid (hb); clear hb)
    | (go_at_call 14; refine (ordered_in (HH.out.kept B0.out)).mono ?_; rw [HOD.out]; rintro e w5 ⟨rfl, hb⟩; have B5 := Lib.hid (below_then B0.out hb); have Y5 := Lib.hid (Y0.out.trans (hb.mono Y0.out.size)); clear hb))
  obtain ⟨size, hsz, hs1, hs2⟩ := way_size b
  have HSZ := Lib.hid hsz
  have HSM : Hid (l.length ≤ 1048576) := Lib.hid (by have := HH.out.small.1; have := HH.out.len; omega)
  have HBY : Hid (ByL (ers l)) := Lib.hid HH.out.byl
  have HS12 := Lib.hid (And.intro hs1 hs2)
  clear hsz hs1 hs2
  go_upto_region 8 with (first
    | (go_at_call 22; rw [HSZ.out]; refine (made_any A l n c size w5 (HH.out.kept B5.out) HO.out HNE.out HS12.out.1 HS12.out.2).mono ?_; rintro e w6 ⟨t, g, p, rfl, hta, hW, hcnt, -, -, hb, hmb⟩; have HT6 := Lib.hid hta; have HW := Lib.hid hW; have B6 := Lib.hid (below_then B5.out hb); have Y6 := Lib.hid (Y5.out.trans (hb.mono Y5.out.size)); have HM9 : Hid (t.mb < w6.heap.size) := Lib.hid (by obtain ⟨es, ck, hm⟩ := hta.mapAt; exact (Array.getElem?_eq_some_iff.1 hm).1); have HM6 : Hid (wb.heap.size ≤ t.mb) := Lib.hid (Nat.le_trans Y5.out.size hmb); clear hta hW hcnt hb hmb))
  have HC : Hid (∀ W, Below w6.heap.size w6 W → (W.cell? ⟨w.heap.size, 0, none⟩ = some (.slice kx.a kn kx.c) ∧ W.cell? ⟨w.heap.size, 3, none⟩ = some (.int .i64 s))) := Lib.hid (fun W hb => by
    have := HBX.out W (Y6.out.trans (hb.mono Y6.out.size))
    exact ⟨this.1, this.2.2.2⟩)
  have N6 : Hid (w.heap.size < w6.heap.size) := Lib.hid (by have := Y6.out.size; have := NB.out; omega)
  have HC2 : Hid (∀ W, Below wb.heap.size wb W → (W.cell? ⟨w.heap.size, 0, none⟩ = some (.slice kx.a kn kx.c) ∧ W.cell? ⟨w.heap.size, 3, none⟩ = some (.int .i64 s))) := Lib.hid (fun W hb => by
    have := HBX.out W hb
    exact ⟨this.1, this.2.2.2⟩)
  have HKY : Hid (∀ W, Below w6.heap.size w6 W → Bys W kx.a kx.l) := Lib.hid (fun W hb => (HKL.out.1.kept (B6.out.trans (hb.mono B6.out.size))).bys)
  have BB := Lib.hid (Below.refl w6.heap.size w6)
  go_cut [9, 10, 11] from 38 to 49 (fun t9 t10 t11 wx => ∃ (xb : Nat) (y : En) (bb : Bool), t9 = .pointer (some ⟨xb, 0, none⟩) ∧ t10 = .bool bb ∧ t11 = .int .i64 0 ∧ Hid (LaidX l kx.l s t wb xb y bb wx))
  case first =>
    go_region_held3 (fun W => W.cell? ⟨w.heap.size, 0, none⟩ = some (.slice kx.a kn kx.c) ∧ W.cell? ⟨w.heap.size, 3, none⟩ = some (.int .i64 s)) (first | (refine HC2.out _ ?_; (repeat (first | with_reducible exact Y8.out | with_reducible refine Below.drew ?_ | with_reducible refine below_al ?_ _)); done) | (refine ⟨?_, ?_⟩ <;> (rw [cell_far (by have := N6.out; have := BB.out.size; first | (simp; omega) | (simp only [ne_eq]; omega)), cell_far (by have := N6.out; have := BB.out.size; first | (simp; omega) | (simp only [ne_eq]; omega)), cell_far (by have := N6.out; have := BB.out.size; first | (simp; omega) | (simp only [ne_eq]; omega)), cell_far (by have := N6.out; have := BB.out.size; first | (simp; omega) | (simp only [ne_eq]; omega))]; have h := HC2.out _ Y8.out; first | exact h.1 | exact h.2)) | exact HC.out _ BB.out | (refine HC.out _ ?_; (repeat (first | with_reducible exact BB.out | with_reducible exact Below.refl _ _ | with_reducible refine Below.drew ?_ | with_reducible refine below_al ?_ _)); done) | go_keep) (first
    | (refine step_append_zero _ (by rfl) (.tmp 40) (.tmp 42) (by rfl) _ kx.l kx.a kn kx.c rfl rfl HLN.out.1 ?_ ?_ ?_ ?_; (repeat (first | ((with_reducible refine Lit0.new _ _ ?_); first | (with_reducible rfl) | (focus (simp only [World.size_alloc]; done))) | with_reducible refine Lit0.drew ?_ | with_reducible refine Lit0.alloc ?_ _)); (refine HKY.out _ ?_; (repeat (first | with_reducible exact BB.out | with_reducible exact Below.refl _ _ | with_reducible refine Below.drew ?_ | with_reducible refine below_al ?_ _))); (have := HK9.out; omega); intro A7 c7 w7 r7 b7; have R7 : Hid (Row w7 w6.heap.size A7 c7 kx.l) := Lib.hid (r7.mono (by first | omega | (simp; omega) | (simp only [drew_size, World.size_alloc]; omega))); have BB : Hid (Below w6.heap.size w6 w7) := Lib.hid (below_then (by repeat (first | with_reducible exact BB.out | with_reducible exact Below.refl _ _ | with_reducible refine Below.drew ?_ | with_reducible refine below_al ?_ _)) b7); have LX := Lib.hid (fun g o (h : _ = some o) => obj_kept (g := g) h b7 (Nat.le_refl _)); clear r7 b7)
    | (go_at_call 23; refine (get_whole l t A7 kx.l kn c7 s w6 _ HT6.out (by repeat (first | with_reducible exact BB.out | with_reducible refine Below.drew ?_ | with_reducible refine below_al ?_ _)) HW.out HSM.out HBY.out HLN.out.1 (R7.out.kept (C := w7.heap.size) (by repeat (first | with_reducible exact Below.refl _ _ | with_reducible refine Below.drew ?_ | with_reducible refine below_al ?_ _)) (Nat.le_refl _)) HKL.out.1.byt wb Y6.out HM6.out).mono ?_; rintro e w8 ⟨y, bb, ha, rfl, hE, r1, r2, hTw, hT, y8⟩; have Y8 := Lib.hid y8; have HA := Lib.hid ha; have HE := Lib.hid hE; have HR12 := Lib.hid (And.intro r1 r2); have HTW := Lib.hid hTw; have HT := Lib.hid hT; (first
      | (have ho := heap_alloc_new w7 (.cells #[.slice none 0 0, .int .i64 0, .bool false, .slice none 0 0] 48); have hx := hTw.obj ho (by have := HM9.out; have := BB.out.size; omega); have HHI := Lib.hid (Array.getElem?_eq_some_iff.1 ho).1; have HX0 := Lib.hid hx; clear ho; obtain ⟨⟨y0, y1, y2, y3⟩, f0, f1, f2, f3⟩ := four_facts hx; clear hx)
      | (have ho := LX.out (w6.heap.size + 1) (.cells #[.slice none 0 0, .int .i64 0, .bool false, .slice none 0 0] 48 (0, 0)) (by have h := heap_alloc_new (w6.alloc (.cells #[] 5)) (.cells #[.slice none 0 0, .int .i64 0, .bool false, .slice none 0 0] 48); rw [World.size_alloc] at h; exact h); have hx := hTw.obj ho (by have := HM9.out; have := BB.out.size; omega); have HHI := Lib.hid (Array.getElem?_eq_some_iff.1 ho).1; have HX0 := Lib.hid hx; clear ho; obtain ⟨⟨y0, y1, y2, y3⟩, f0, f1, f2, f3⟩ := four_facts hx; clear hx)
      | (have ho := LX.out w6.heap.size (.cells #[.slice none 0 0, .int .i64 0, .bool false, .slice none 0 0] 48 (0, 0)) (by have h := obj_kept (heap_alloc_new w6 (.cells #[.slice none 0 0, .int .i64 0, .bool false, .slice none 0 0] 48)) (below_new (w6.alloc (.cells #[.slice none 0 0, .int .i64 0, .bool false, .slice none 0 0] 48)) (.cells #[] 5)) (Nat.le_refl _); exact h); have hx := hTw.obj ho (by have := HM9.out; have := BB.out.size; omega); have HHI := Lib.hid (Array.getElem?_eq_some_iff.1 ho).1; have HX0 := Lib.hid hx; clear ho; obtain ⟨⟨y0, y1, y2, y3⟩, f0, f1, f2, f3⟩ := four_facts hx; clear hx)
      | skip); clear ha hE r1 r2 hTw hT y8))
    all_goals
      go_wp2_with fail
      go_meet
      exact ⟨_, y, bb, rfl, rfl, rfl, Lib.hid (by first | exact x_new HA.out HE.out HT.out.at_ Y8.out | exact x_old HA.out HBY.out HX0.out HT.out HM9.out HR12.out.1 HR12.out.2 (by have := BB.out.size; omega) HHI.out Y6.out.size Y8.out)⟩
  case rest =>
    obtain ⟨xb, y, bb, rfl, rfl, rfl, HX⟩ := hcut
    have HX0 : Hid (wc.heap[xb]? = some (.cells #[.slice y.k.a y.k.l.length y.k.c, .int .i64 y.s, .bool y.d, .slice y.v.a y.v.l.length y.v.c] 48 (0, 0))) := Lib.hid HX.out.2.1
    have YC := Lib.hid HX.out.2.2.2.2
    have HKY2 : Hid (∀ W, Below wb.heap.size wb W → In W kx.a kx.l kn kx.c ∧ In W lx.a lx.l ln lx.c ∧ In W hx.a hx.l hn hx.c) := Lib.hid (fun W hb => by
      have hb' := BX.out.trans (hb.mono BX.out.size)
      obtain ⟨h1, h2, h3⟩ := HLN.out
      subst h1 h2 h3
      exact ⟨HKL.out.1.kept hb', HKL.out.2.1.kept hb', HKL.out.2.2.kept hb'⟩)
    clear HC HC2 HKY BB
    obtain ⟨z0, z1, z2, z3⟩ := HBX.out wc YC.out
    go_upto_region 10 with (first
      | (go_at_call 24; refine (refGet_any A kx.a l kx.l s n kn c kx.c wc HH.out.len ((HH.out.kept (BX.out.trans (YC.out.mono BX.out.size))).lies) ((HH.out.kept (BX.out.trans (YC.out.mono BX.out.size))).ins) HO.out (HKY2.out wc YC.out).1 (by have := HSM.out; have := HH.out.len; omega)).mono ?_; rintro e w9 ⟨y2, b2, rfl, hb, ha⟩; have HA2 := Lib.hid ha; have B9 := Lib.hid hb; rw [En.val_eq]; clear ha hb))
    obtain ⟨wd, hwd⟩ : ∃ wd, w9.alloc (.cells #[.slice y2.k.a y2.k.l.length y2.k.c, .int .i64 y2.s, .bool y2.d, .slice y2.v.a y2.v.l.length y2.v.c] 48) = wd := ⟨_, rfl⟩
    have HD9 : Hid (wd.heap[w9.heap.size]? = some (.cells #[.slice y2.k.a y2.k.l.length y2.k.c, .int .i64 y2.s, .bool y2.d, .slice y2.v.a y2.v.l.length y2.v.c] 48 (0, 0))) := Lib.hid (by rw [← hwd]; exact heap_alloc_new w9 _)
    have HD8 : Hid (Below wc.heap.size wc wd) := Lib.hid (B9.out.trans ((hwd ▸ below_new w9 _ : Below w9.heap.size w9 wd).mono B9.out.size))
    rw [hwd]
    clear hwd z0 z1 z2 z3
    have YD : Hid (Below wb.heap.size wb wd) := Lib.hid (YC.out.trans (HD8.out.mono YC.out.size))
    have HTD : Hid (TabAt wd t) := Lib.hid (HX.out.2.2.2.1.kept HD8.out)
    have HC : Hid (∀ W, Below wd.heap.size wd W → (W.cell? ⟨w.heap.size, 1, none⟩ = some (.slice lx.a ln lx.c) ∧ W.cell? ⟨w.heap.size, 2, none⟩ = some (.slice hx.a hn hx.c))) := Lib.hid (fun W hb => by
      have := HBX.out W (YD.out.trans (hb.mono YD.out.size))
      exact ⟨this.2.1, this.2.2.1⟩)
    have HC2 : Hid (∀ W, Below wb.heap.size wb W → (W.cell? ⟨w.heap.size, 1, none⟩ = some (.slice lx.a ln lx.c) ∧ W.cell? ⟨w.heap.size, 2, none⟩ = some (.slice hx.a hn hx.c))) := Lib.hid (fun W hb => by
      have := HBX.out W hb
      exact ⟨this.2.1, this.2.2.1⟩)
    have HKY : Hid (∀ W, Below wd.heap.size wd W → Bys W lx.a lx.l ∧ Bys W hx.a hx.l) := Lib.hid (fun W hb => by
      have hb' := BX.out.trans ((YD.out.trans (hb.mono YD.out.size)).mono BX.out.size)
      exact ⟨(HKL.out.2.1.kept hb').bys, (HKL.out.2.2.kept hb').bys⟩)
    have BB := Lib.hid (Below.refl wd.heap.size wd)
    have T1 := Lib.hid trivial
    have T2 := Lib.hid trivial
    go_cut [14, 15] from 59 to 71 (fun t14 t15 wx => ∃ (l' : List En) (A' : Option Addr) (z c' : Nat), t14 = .slice A' z c' ∧ t15 = .int .i64 0 ∧ Hid (l'.length = z ∧ ers l' = rangeE (ers l) lx.l hx.l ∧ Lies wx A' (evals l') ∧ EIns wx l' ∧ z ≤ 1048576 ∧ Below wb.heap.size wb wx ∧ Tw t.mb wd wx))
    case first =>
      go_region_held3 (fun W => W.cell? ⟨w.heap.size, 1, none⟩ = some (.slice lx.a ln lx.c) ∧ W.cell? ⟨w.heap.size, 2, none⟩ = some (.slice hx.a hn hx.c)) (first | (refine HC2.out _ ?_; (repeat (first | with_reducible exact Y8.out | with_reducible refine Below.drew ?_ | with_reducible refine below_al ?_ _)); done) | exact HC.out _ BB.out | (refine HC.out _ ?_; (repeat (first | with_reducible exact BB.out | with_reducible exact Below.refl _ _ | with_reducible refine Below.drew ?_ | with_reducible refine below_al ?_ _)); done) | go_keep) (first
        | (have t1 := T1; refine step_append_zero _ (by rfl) (.tmp 61) (.tmp 63) (by rfl) _ lx.l lx.a ln lx.c rfl rfl HLN.out.2.1 ?_ ?_ ?_ ?_; (repeat (first | ((with_reducible refine Lit0.new _ _ ?_); first | (with_reducible rfl) | (focus (simp only [World.size_alloc]; done))) | with_reducible refine Lit0.drew ?_ | with_reducible refine Lit0.alloc ?_ _)); (refine (HKY.out _ ?_).1; (repeat (first | with_reducible exact BB.out | with_reducible exact Below.refl _ _ | with_reducible refine Below.drew ?_ | with_reducible refine below_al ?_ _))); (have := HK9.out; omega); intro A6 c6 w11 r6 b6; have R6 : Hid (Row w11 wd.heap.size A6 c6 lx.l) := Lib.hid (r6.mono (by first | omega | (simp; omega) | (simp only [drew_size, World.size_alloc]; omega))); have LK := Lib.hid (fun g (h : Lit0 _ g) => h.kept b6); have BB : Hid (Below wd.heap.size wd w11) := Lib.hid (below_then (by repeat (first | with_reducible exact BB.out | with_reducible exact Below.refl _ _ | with_reducible refine Below.drew ?_ | with_reducible refine below_al ?_ _)) b6); clear r6 b6 T1 t1)
        | (have t2 := T2; refine step_append_zero _ (by rfl) (.tmp 65) (.tmp 67) (by rfl) _ hx.l hx.a hn hx.c rfl rfl HLN.out.2.2 ?_ ?_ ?_ ?_; (repeat (first | ((with_reducible refine Lit0.new _ _ ?_); first | (with_reducible rfl) | (focus (simp only [World.size_alloc]; done))) | with_reducible refine Lit0.drew ?_ | with_reducible refine Lit0.alloc ?_ _ | with_reducible refine LK.out _ ?_)); (refine (HKY.out _ ?_).2; (repeat (first | with_reducible exact BB.out | with_reducible exact Below.refl _ _ | with_reducible refine Below.drew ?_ | with_reducible refine below_al ?_ _))); (have := HK9.out; omega); intro A7 c7 w12 r7 b7; have R7 : Hid (Row w12 wd.heap.size A7 c7 hx.l) := Lib.hid (r7.mono (by have := BB.out.size; first | omega | (simp; omega) | (simp only [drew_size, World.size_alloc]; omega))); have R6 : Hid (Row w12 wd.heap.size A6 c6 lx.l) := Lib.hid (R6.out.kept (below_then (by repeat (first | with_reducible exact Below.refl _ _ | with_reducible refine Below.drew ?_ | with_reducible refine below_al ?_ _)) b7) (Nat.le_refl _)); have BB : Hid (Below wd.heap.size wd w12) := Lib.hid (below_then (by repeat (first | with_reducible exact BB.out | with_reducible exact Below.refl _ _ | with_reducible refine Below.drew ?_ | with_reducible refine below_al ?_ _)) b7); clear r7 b7 LK T2 t2)
        | (go_at_call 18; refine (all_look l t A6 A7 lx.l hx.l ln hn c6 c7 wb wd _ HTD.out (by repeat (first | with_reducible exact BB.out | with_reducible refine Below.drew ?_ | with_reducible refine below_al ?_ _)) HW.out HSM.out HBY.out R6.out R7.out HKL.out.2.1.byt HKL.out.2.2.byt HLN.out.2.1 HLN.out.2.2 (by have := HK9.out; have := HLN.out; omega) (by have := HK9.out; have := HLN.out; omega) YD.out HM6.out).mono ?_; rintro e w13 ⟨l', A', z, c', q1, q2, rfl, q3⟩; have HQ := Lib.hid (And.intro q1 (And.intro q2 q3)); have Y8 := Lib.hid q3.2.2.2.1; clear q1 q2 q3))
      all_goals
        go_wp2_with fail
        go_meet
        exact ⟨l', A', z, c', rfl, rfl, HQ⟩
    case rest =>
      obtain ⟨l', A', z, c', rfl, rfl, HQ⟩ := hcut
      have hm9 : ∀ (g : Nat) (es : Array Value) (u : TypeId), wd.heap[g]? = some (.cells es u (0, 0)) → g ≠ t.mb := fun g es u hg e => by
        obtain ⟨es', ck, hm⟩ := HTD.out.mapAt
        rw [← e, hg] at hm
        cases hm
      have o1 := HQ.out.2.2.2.2.2.2.obj (obj_kept HX0.out HD8.out (Nat.le_refl _)) (hm9 _ _ _ (obj_kept HX0.out HD8.out (Nat.le_refl _)))
      have o2 := HQ.out.2.2.2.2.2.2.obj HD9.out (hm9 _ _ _ HD9.out)
      clear hm9
      have HO1 := Lib.hid o1
      have HO2 := Lib.hid o2
      have hrd : bb = b2 ∧ y.rd = y2.rd ∧ EIn wd y2 := by
        have hin : EIns wd l := (HH.out.kept (BX.out.trans (YD.out.mono BX.out.size))).ins
        rcases HX.out.1 with ⟨a1, a2⟩ | ⟨a1, a2, a3⟩ <;> rcases HA2.out with ⟨c1, c2, c3⟩ | ⟨c1, c2, c3⟩
        · rw [a2] at c3
          injection c3 with c3
          exact ⟨by rw [a1, c1], c3, hin _ c2⟩
        · rw [a2] at c3
          cases c3
        · rw [a3] at c3
          cases c3
        · rw [a2, c2]
          exact ⟨by rw [a1, c1], rfl, in_nil _, in_nil _⟩
      obtain ⟨hbb, hrd, hE2⟩ := hrd
      subst hbb
      have HSO : Hid (Calls Tryz.prog 25 #[.agg #[.slice y.k.a y.k.l.length y.k.c, .int .i64 y.s, .bool y.d, .slice y.v.a y.v.l.length y.v.c], .agg #[.slice y2.k.a y2.k.l.length y2.k.c, .int .i64 y2.s, .bool y2.d, .slice y2.v.a y2.v.l.length y2.v.c]] wc fun e w' => e = .returned (.bool true) ∧ Below wc.heap.size wc w') := Lib.hid (by
        have hM := HTD.out.mapAt
        have hE1 : EIn wd y := HX.out.2.2.1.kept HD8.out
        have := refSameOne_any y y2 wc ⟨hE1.1.tw HQ.out.2.2.2.2.2.2 hM, hE1.2.tw HQ.out.2.2.2.2.2.2 hM⟩ ⟨hE2.1.tw HQ.out.2.2.2.2.2.2 hM, hE2.2.tw HQ.out.2.2.2.2.2.2 hM⟩
        rwa [decide_eq_true hrd, En.val_eq, En.val_eq] at this)
      have HLL : Hid (∀ W, Below wc.heap.size wc W → LIn W A l n c ∧ In W kx.a kx.l kn kx.c ∧ In W lx.a lx.l ln lx.c ∧ In W hx.a hx.l hn hx.c ∧ Below w.heap.size w W) := Lib.hid (fun W hb => by
        have h1 := HQ.out.2.2.2.2.2.1.trans (hb.mono HQ.out.2.2.2.2.2.1.size)
        have h2 := BX.out.trans (h1.mono BX.out.size)
        have h3 := HKY2.out W h1
        exact ⟨HH.out.kept h2, h3.1, h3.2.1, h3.2.2, h2⟩)
      have HBW : Hid (∀ W, Below wc.heap.size wc W → (W.cell? ⟨w.heap.size, 1, none⟩ = some (.slice lx.a ln lx.c) ∧ W.cell? ⟨w.heap.size, 2, none⟩ = some (.slice hx.a hn hx.c))) := Lib.hid (fun W hb => by
        have h1 := HQ.out.2.2.2.2.2.1.trans (hb.mono HQ.out.2.2.2.2.2.1.size)
        have h3 := HBX.out W h1
        exact ⟨h3.2.1, h3.2.2.1⟩)
      obtain ⟨⟨c0, c1, c2, c3⟩, -⟩ := four_facts o1
      obtain ⟨⟨d0, d1, d2, d4⟩, -⟩ := four_facts o2
      obtain ⟨r0, hr0⟩ : ∃ r0, l.filter (fun q => inE lx.l hx.l q.rd) = r0 := ⟨_, rfl⟩
      have HR0 := Lib.hid hr0
      have HKP : Hid (∀ W, Below wc.heap.size wc W → Lies W A' (evals l') ∧ EIns W l') := Lib.hid (fun W hb => ⟨HQ.out.2.2.1.kept hb, HQ.out.2.2.2.1.kept hb⟩)
      clear o1 o2 hrd hE2 hr0 HC HC2 HKY BB T1 T2
      cases bb
      all_goals
        go_wp2_with (first
          | (go_at_call 25; refine HSO.out.mono ?_; rintro e w14 ⟨rfl, hb⟩; have B14 := Lib.hid hb; obtain ⟨z1, z2⟩ := HBW.out w14 B14.out; clear hb c0 c1 c2 c3 d0 d1 d2 d4)
          | (go_at_call 26; refine (refRange_any A lx.a hx.a l lx.l hx.l n ln hn c lx.c hx.c w14 (HLL.out w14 B14.out).1.len (HLL.out w14 B14.out).1.lies (HLL.out w14 B14.out).1.ins (HLL.out w14 B14.out).2.2.1 (HLL.out w14 B14.out).2.2.2.1 (by have := HH.out.small.1; omega) (fun q hq => by have := (HH.out.small.2 q hq).1; omega) (by have := HK9.out; have := HLN.out; omega) (by have := HK9.out; have := HLN.out; omega)).mono ?_; rw [HR0.out]; rintro e w15 ⟨A15, c15, rfl, hE15, hb⟩; have R15 := Lib.hid hE15; have B15 := Lib.hid (below_then B14.out hb); obtain ⟨m15, hm15⟩ : ∃ q, r0.length = q := ⟨_, rfl⟩; rw [hm15]; have HM15 := Lib.hid hm15; clear hb hE15 hm15 z1 z2)
          | (go_at_call 20; refine (refSame_any A' A15 l' r0 z m15 c' c15 w15 HQ.out.1 HM15.out (HKP.out w15 B15.out).1 R15.out.lies (HKP.out w15 B15.out).2 (by rw [← HR0.out]; exact fun q hq => (HLL.out w15 B15.out).1.ins q (List.mem_filter.1 hq).1) (by have := HQ.out; omega)).mono ?_; rw [show decide (ers l' = ers r0) = true from decide_eq_true (by rw [HQ.out.2.1, ← HR0.out]; unfold rangeE ers; rw [List.filter_map]; rfl)]; rintro e w16 ⟨rfl, hb⟩; have B16 := Lib.hid (below_then B15.out hb); clear hb))
        go_ret
        exact ⟨rfl, (HLL.out w16 B16.out).2.2.2.2⟩
end Go.Proofs.YtnoccpafjaoopaaGreat
