/-
  The law: what is put stays its owner's.
-/
import Derived.Test.YtcffpkflijpdjaaJO09
set_option linter.unusedSimpArgs false
set_option linter.unusedVariables false
namespace Go.Proofs.Ytcffpkflijpdjaa
open Go.RowKit
/-- Numbers that may be written over. -/
def SpotI (w : World) (A : Option Addr) (m : Nat) : Prop := m = 0 ∨ ∃ g cur, A = some ⟨g, 0, none⟩ ∧ w.heap[g]? = some (.cells cur 3 (0, 0)) ∧ m ≤ cur.size
theorem Irow.spotI {B c : Nat} {w : World} {A : Option Addr} {L : List Int} (h : Irow w B A c L) : SpotI w A L.length := by
  rcases h.2 with ⟨hn, h0⟩ | ⟨g, cap, cur, e, h1, h2, h3⟩
  · left
    simpa using h0
  · right
    injection e with e1 e2 e3
    refine ⟨g, cur, e1, h2, ?_⟩
    have := h3.1
    have := h3.2.2.1
    omega
/-- The law's own heights, while they are written over. -/
structure Ih (A : Option Addr) (m : Nat) (w0 w : World) : Prop where
  sp : SpotI w A m
  kp : Kp (fun b => ¬ SlB A b) w0 w
theorem Ih.set {A : Option Addr} {m k : Nat} {w0 w : World} (h : Ih A m w0 w) (hk : k < m) : ∃ g x, A = some ⟨g, 0, none⟩ ∧ w.cell? ⟨g, k, none⟩ = some x ∧ w.frozen? ⟨g, k, none⟩ = false ∧ ∀ y, Ih A m w0 (w.setCell ⟨g, k, none⟩ y) := by
  obtain ⟨g, cur, e, h1, h2⟩ := h.sp.resolve_left (by omega)
  refine ⟨g, cur[k]'(by omega), e, by simp [World.cell?, h1, show k < cur.size by omega], by simp [World.frozen?, h1], fun y => ⟨.inr ⟨g, cur.setIfInBounds k y, e, ?_, by simpa using h2⟩, h.kp.set g k _ (fun hn => hn ⟨_, e, rfl⟩)⟩⟩
  simp [World.setCell, Array.getElem?_modify, h1]
/-- What Put answers, known ahead. -/
def PutK (t : MT) (x : Er) (er : Int) (w : World) (e : Ending) (w' : World) : Prop := ∃ t' : MT, e = .returned (.int .i64 er) ∧ MTab w' t' ∧ t'.b = t.b ∧ Tds t.own t'.own w w' ∧ ((er ≠ 0 ∧ t' = t) ∨ (er = 0 ∧ t'.has.Perm (x :: t.has) ∧ t'.ns.length = t.ns.length + 1))
theorem put_known {t : MT} {x : Er} {w : World} : ∃ er : Int, (er = 30 ∨ er = 31 ∨ er = 0) ∧ ∀ (e : Ending) (w' : World), PutR t x w e w' → PutK t x er w e w' := by
  by_cases hg : GoodE x
  · by_cases hd : ∃ y ∈ t.has, ordE y x = 0
    · refine ⟨31, .inr (.inl rfl), fun e w' ⟨er, t', h1, h2, h3, h4, h5⟩ => ?_⟩
      rcases h5 with ⟨-, h5, -⟩ | ⟨rfl, -, -, h5⟩ | ⟨-, -, h5, -⟩
      · exact absurd hg h5
      · exact ⟨t', h1, h2, h3, h4, .inl ⟨by decide, h5⟩⟩
      · obtain ⟨y, y1, y2⟩ := hd
        have ha := (apt_perm h5).1 (ordL_apt h2.skip.sorted)
        have := (List.pairwise_cons.1 ha).1 y y1
        rw [ordE_flip, y2] at this
        exact absurd rfl this
    · refine ⟨0, .inr (.inr rfl), fun e w' ⟨er, t', h1, h2, h3, h4, h5⟩ => ?_⟩
      rcases h5 with ⟨-, h5, -⟩ | ⟨-, -, h5, -⟩ | ⟨rfl, -, h5, h6⟩
      · exact absurd hg h5
      · exact absurd h5 hd
      · exact ⟨t', h1, h2, h3, h4, .inr ⟨rfl, h5, h6⟩⟩
  · refine ⟨30, .inl rfl, fun e w' ⟨er, t', h1, h2, h3, h4, h5⟩ => ?_⟩
    rcases h5 with ⟨rfl, -, h5⟩ | ⟨-, h5, -⟩ | ⟨-, h5, -⟩
    · exact ⟨t', h1, h2, h3, h4, .inl ⟨by decide, h5⟩⟩
    · exact absurd h5 hg
    · exact absurd h5 hg
theorem OwI.putK {w w2 W W' : World} {B c2 b i ch : Nat} {A2 Ah : Option Addr} {li lh : List En} {t : MT} {P : List Er} {x : Er} {er : Int} {e : Ending} (h : OwI w w2 B A2 li b i W t P lh Ah ch) (f : OwF w w2 B A2 c2 li) (hp : PutK t x er W e W') : ∃ t' : MT, e = .returned (.int .i64 er) ∧ OwI w w2 B A2 li b i W' t' (if er = 0 then x :: P else P) lh Ah ch ∧ ∀ g, t'.own g → g < W'.heap.size := by
  obtain ⟨t', h1, h2, h3, h4, h5⟩ := hp
  refine ⟨t', h1, ?_, h2.in_⟩
  rcases h5 with ⟨h5, rfl⟩ | ⟨rfl, h5, h6⟩
  · rw [if_neg h5]
    exact h.put f h4 h2 h3 h.perm h.cnt
  · rw [if_pos rfl]
    exact h.put f h4 h2 h3 ((h.perm.cons x).trans h5.symm) (by rw [h6, h.cnt]; rfl)
set_option maxRecDepth 100000 in
set_option maxHeartbeats 16000000 in
theorem lawMOwn (A B : Option Addr) (l : List En) (H : List Int) (n c m d : Nat) (w : World) (h : EF w A l n c) (hn9 : n ≤ 1048576) (hh : Lies w B (ivals H)) (hHl : H.length = m) (hm9 : m ≤ 1048576) :
    Calls Try.prog 4 #[.slice A n c, .slice B m d] w fun e w' => e = .returned (.bool true) ∧ Below w.heap.size w w' := by
  have HH := Lib.hid h
  have HI := Lib.hid (And.intro hh (And.intro hHl (And.intro hn9 hm9)))
  clear h hh hHl
  go_enter Try.func4, Try.ntmps4
  go_upto_region 5 with (first
    | (go_at_call 18; refine (wakes_mt _).mono ?_; rintro e w1 ⟨rfl, hb⟩; have B1 := Lib.hid hb; clear hb)
    | (at_builtin; refine wpList_append_irow _ rfl (.tmp 19) (.tmp 20) rfl w1.heap.size _ 0 H _ m d rfl rfl HI.out.2.1 (irow_made w1) (HI.out.1.kept (B1.out.alloc B1.out.size _)) (by simp) (by omega) ?_; intro A3 c3 w3 r3 b3; have E3 : Hid (Irow w3 w1.heap.size A3 c3 H ∧ Below w.heap.size w w3) := Lib.hid ⟨r3, (B1.out.alloc B1.out.size _).trans (b3.mono B1.out.size)⟩; clear r3 b3)
    | (go_at_call 22; refine (mnew_any A3 H m c3 HI.out.2.1 E3.out.1.lies (by omega)).mono ?_; rintro e w4 ⟨t, rfl, h1, h2, h3, h4, hb⟩; have E4 : Hid (MTab w4 t ∧ t.has = [] ∧ t.ns.length = 1 ∧ (∀ g, t.own g → w3.heap.size ≤ g) ∧ Below w3.heap.size w3 w4) := Lib.hid ⟨h1, h2, h3, h4, hb⟩; clear h1 h2 h3 h4 hb))
  have HS4 : Hid (SpotI w4 A3 m) := Lib.hid (by have := Irow.spotI (own_kept E3.out.1 E4.out.2.2.2.2 (Nat.le_refl _) : Irow w4 w1.heap.size A3 c3 H); rwa [HI.out.2.1] at this)
  go_wp2_with fail
  go_loopw [26] (fun t26 wr => ∃ k : Nat, k ≤ m ∧ t26 = .int .i64 k ∧ Hid (Ih A3 m w4 wr)) (fun t26 _ => m - (intOf t26).toNat)
  case atStart => exact ⟨0, by omega, rfl, Lib.hid ⟨HS4.out, Kp.refl _ _⟩⟩
  case round =>
    obtain ⟨k, hk, rfl, hr⟩ := hrel
    by_cases hlt : k < m
    · obtain ⟨g, x, rfl, d0, f0, hset⟩ := hr.out.set hlt
      have HSET := Lib.hid hset
      have i0 : (k : Int) < m := by omega
      clear hset
      go_wp2_with fail
      go_roundw
      case rel => exact ⟨k + 1, by omega, by go_num, Lib.hid (HSET.out _)⟩
      case measure => simp [intOf]; omega
    · obtain rfl : m = k := by omega
      have H5 := Lib.hid hr.out
      clear hr hlt hk
      generalize wr = w5 at H5 ⊢
      have B5 : Hid (Below w.heap.size w w5 ∧ MTab w5 t ∧ w3.heap.size ≤ w5.heap.size ∧ ∀ g, t.own g → g < w5.heap.size) := Lib.hid (by
        have hlow : ∀ g, SlB A3 g → w1.heap.size ≤ g ∧ g < w3.heap.size := fun g hg => by
          obtain ⟨v, e, rfl⟩ := hg
          exact own_in E3.out.1 v e
        have b4 := below_then E3.out.2 E4.out.2.2.2.2
        have hz := E4.out.2.2.2.2.size
        have h1 : MTab w5 t := E4.out.1.same (fun g hg => H5.out.kp.block g (fun e => by have := hlow g e; have := E4.out.2.2.2.1 g hg; omega))
        refine ⟨b4.trans ⟨H5.out.kp.os, H5.out.kp.tape, H5.out.kp.output, H5.out.kp.size, fun g hg => H5.out.kp.block g (fun e => by have := hlow g e; have := B1.out.size; omega)⟩, h1, by have := H5.out.kp.size; omega, h1.in_⟩)
      clear HS4 H5
      go_upto_region 12 with (go_at_call 23; refine (refCopy_apart A l n c w5 HH.out.len (HH.out.kept B5.out.1).lies (HH.out.kept B5.out.1).ins HH.out.few HH.out.longs).mono ?_; rintro e w6 ⟨li, A6, c6, h1, rfl, h2, h3, hb, h4⟩; have E6 : Hid (ers li = ers l ∧ Below w5.heap.size w5 w6) := Lib.hid ⟨h1, hb⟩; have F6 : Hid (OwF w w6 w5.heap.size A6 c6 li) := Lib.hid ⟨⟨B5.out.1.size, hb.size⟩, h3, h2, h4⟩; clear h1 h2 h3 hb h4)
      have HLN : Hid (li.length = n) := Lib.hid (by have := congrArg List.length E6.out.1; rw [ers_len, ers_len, HH.out.len] at this; exact this)
      rw [HLN.out]
      have B6 : Hid (Below w.heap.size w w6 ∧ MTab w6 t ∧ (∀ g, t.own g → w.heap.size ≤ g ∧ g < w5.heap.size)) := Lib.hid ⟨below_then B5.out.1 E6.out.2, B5.out.2.1.kept E6.out.2, fun g hg => ⟨by have := E4.out.2.2.2.1 g hg; have := E3.out.2.size; omega, B5.out.2.2.2 g hg⟩⟩
      have HBT : Hid (∀ q ∈ li, ErB q.rd ∧ FitE q.rd ∧ q.k.l.length ≤ 140737488351232 ∧ q.v.l.length ≤ 140737488351232) := Lib.hid (fun q hq => by
        have h1 : q.rd ∈ ers l := E6.out.1 ▸ List.mem_map_of_mem hq
        exact ⟨HH.out.ins.byt _ h1, HH.out.fit _ h1, (HH.out.long _ h1).1, (HH.out.long _ h1).2⟩)
      obtain ⟨b9, hb9⟩ : ∃ b, t.b = b := ⟨_, rfl⟩
      have HO6 : Hid (OwI w w6 w5.heap.size A6 li b9 0 w6 t [] [] none 0) := Lib.hid ⟨B6.out.1, Nat.le_refl _, fun _ _ => rfl, B6.out.2.1, hb9, fun g hg => ⟨(B6.out.2.2 g hg).1, .inl (B6.out.2.2 g hg).2⟩, fun g _ e => (by rcases e with ⟨v, e, -⟩ | ⟨q, e, -⟩ <;> cases e), Erow.nil _ _, EMades.nil _ _, by rw [E4.out.2.1], by rw [E4.out.2.2.1]; rfl⟩
      rw [hb9]
      clear hb9
      clear E3 E4 B5 B6
      go_wp2_with fail
      go_loopw [9, 37] (fun t9 t37 wr => ∃ (i k : Nat) (t' : MT) (P : List Er) (lh : List En) (Ah : Option Addr) (ch : Nat), i ≤ n ∧ t37 = .int .i64 i ∧ t9 = .slice Ah k ch ∧ Hid (OwI w w6 w5.heap.size A6 li b9 i wr t' P lh Ah ch ∧ (ers lh).Perm P ∧ lh.length = k ∧ k ≤ i)) (fun _ t37 _ => n - (intOf t37).toNat)
      case atStart => exact ⟨0, 0, t, [], [], none, 0, by omega, rfl, rfl, Lib.hid ⟨HO6.out, List.Perm.refl _, rfl, Nat.le_refl _⟩⟩
      case round =>
        obtain ⟨i, kh, t', P, lh, Ah, ch, hi, rfl, rfl, hr⟩ := hrel
        by_cases hlt : i < n
        · have hq := List.getElem?_eq_getElem (l := li) (i := i) (by have := HLN.out; omega)
          generalize li[i]'(by have := HLN.out; omega) = q at hq
          have hx := List.getElem?_eq_getElem (l := l) (i := i) (by have := HH.out.len; omega)
          generalize l[i]'(by have := HH.out.len; omega) = x at hx
          have hrd : q.rd = x.rd := by
            have h1 := ers_get hq
            rw [E6.out.1, ers_get hx] at h1
            injection h1 with h1
            exact h1.symm
          have HQ := Lib.hid (And.intro hq (And.intro hx hrd))
          have HQB := Lib.hid (HBT.out q (List.mem_of_getElem? hq))
          have hxm := List.mem_of_getElem? hx
          obtain ⟨ad, rfl, a0, a1, a2, a3⟩ := lies_entry (Erow.lies (hr.out.1.row F6.out)) hq
          obtain ⟨ax, rfl, b0, b1, b2, b3⟩ := lies_entry ((HH.out.kept hr.out.1.low).lies) hx
          have HAX : Hid (∀ W, Below w.heap.size w W → AtE W (ax.add (i * 4)) x ∧ EIn W x) := Lib.hid (fun W hb => ⟨lies_entry_at (HH.out.kept hb).lies hx, (HH.out.kept hb).ins x hxm⟩)
          have HXL := Lib.hid (HH.out.longs x hxm)
          have HIN : Hid (∀ W, Row W w5.heap.size q.k.a q.k.c q.k.l ∧ Row W w5.heap.size q.v.a q.v.c q.v.l → EIn W q) := Lib.hid (fun W h => ⟨h.1.in_ HQB.out.1.1, h.2.in_ HQB.out.1.2⟩)
          have HPUT := Lib.hid (mput_any hr.out.1.tab q (HIN.out wr (hr.out.1.here F6.out hq)) HQB.out.2.1 (by have := HQB.out.2.2.1; omega) (by have := HQB.out.2.2.2; omega) (by have h1 := hr.out.1.cnt; have h2 := hr.out.2.1.length_eq; rw [ers_len] at h2; have h3 := hr.out.2.2; have h4 := HI.out.2.2.1; omega))
          rw [hr.out.1.tb, En.val_eq] at HPUT
          have i0 : (i : Int) < n := by omega
          have hfew := HI.out.2.2.1
          obtain ⟨⟨ka, kc, kl⟩, qs, qd, ⟨va, vc, vl⟩⟩ := q
          obtain ⟨km, hkm⟩ : ∃ m, kl.length = m := ⟨_, rfl⟩
          obtain ⟨vm, hvm⟩ : ∃ m, vl.length = m := ⟨_, rfl⟩
          have HMZ := Lib.hid (And.intro hkm hvm)
          simp only at a0 a1 a2 a3
          simp only [hkm, hvm] at HPUT
          rw [hkm] at a0
          rw [hvm] at a3
          clear hq hx hrd hxm hkm hvm b0 b1 b2 b3
          obtain ⟨er, her, hpk⟩ := put_known (t := t') (x := (⟨⟨ka, kc, kl⟩, qs, qd, ⟨va, vc, vl⟩⟩ : En).rd) (w := wr)
          have HPK : Hid (Calls Try.prog 16 #[.pointer (some ⟨b9, 0, none⟩), .agg #[.slice ka km kc, .int .i64 qs, .bool qd, .slice va vm vc]] wr fun e w' => ∃ t8 : MT, e = .returned (.int .i64 er) ∧ OwI w w6 w5.heap.size (some ad) li b9 i w' t8 (if er = 0 then (⟨⟨ka, kc, kl⟩, qs, qd, ⟨va, vc, vl⟩⟩ : En).rd :: P else P) lh Ah ch ∧ ∀ g, t8.own g → g < w'.heap.size) := Lib.hid (HPUT.out.mono (fun e w' h => hr.out.1.putK F6.out (hpk e w' h)))
          have HL := Lib.hid hr.out.2
          clear hpk HPUT hr
          have HSAM : Hid (∀ W, Below w.heap.size w W → EIn W (⟨⟨ka, kc, kl⟩, qs, qd, ⟨va, vc, vl⟩⟩ : En) → Calls Try.prog 19 #[.agg #[.slice ka km kc, .int .i64 qs, .bool qd, .slice va vm vc], .agg #[.slice x.k.a x.k.l.length x.k.c, .int .i64 x.s, .bool x.d, .slice x.v.a x.v.l.length x.v.c]] W fun e w' => e = .returned (.bool true) ∧ Below W.heap.size W w') := Lib.hid (fun W hb hi => by
            have := refSameOne_any (⟨⟨ka, kc, kl⟩, qs, qd, ⟨va, vc, vl⟩⟩ : En) x W hi (HAX.out W hb).2
            rw [decide_eq_true HQ.out.2.2, En.val_eq, En.val_eq] at this
            simp only [HMZ.out.1, HMZ.out.2] at this
            exact this)
          rcases her with rfl | rfl | rfl
          · go_upto_region 17 with (go_at_call 16; refine HPK.out.mono ?_; rintro e w8 ⟨t8, rfl, p1, p2⟩; have HV : Hid (OwI w w6 w5.heap.size (some ad) li b9 i w8 t8 P lh Ah ch ∧ (ers lh).Perm P ∧ lh.length = kh ∧ kh ≤ i + 1) := Lib.hid ⟨p1, HL.out.1, HL.out.2.1, by have := HL.out.2.2; omega⟩; clear p1 p2)
            have HLY : Hid (∀ W, Below w8.heap.size w8 W → AtE W (ad.add (i * 4)) (⟨⟨ka, kc, kl⟩, qs, qd, ⟨va, vc, vl⟩⟩ : En) ∧ AtE W (ax.add (i * 4)) x ∧ Below w.heap.size w W ∧ EIn W (⟨⟨ka, kc, kl⟩, qs, qd, ⟨va, vc, vl⟩⟩ : En)) := Lib.hid (fun W hb => by
              have h1 := HV.out.1.below F6.out hb
              exact ⟨lies_entry_at (Erow.lies (h1.row F6.out)) HQ.out.1, (HAX.out W h1.low).1, h1.low, HIN.out W (h1.here F6.out HQ.out.1)⟩)
            have HLS : Hid (∀ W, Below w8.heap.size w8 W → (W.cell? (ad.add (i * 4)) = some (.slice ka km kc) ∧ W.cell? ⟨(ad.add (i * 4)).block, (ad.add (i * 4)).off + 1, none⟩ = some (.int .i64 qs) ∧ W.cell? ⟨(ad.add (i * 4)).block, (ad.add (i * 4)).off + 2, none⟩ = some (.bool qd) ∧ W.cell? ⟨(ad.add (i * 4)).block, (ad.add (i * 4)).off + 3, none⟩ = some (.slice va vm vc)) ∧ W.cell? (ax.add (i * 4)) = some (.slice x.k.a x.k.l.length x.k.c) ∧ W.cell? ⟨(ax.add (i * 4)).block, (ax.add (i * 4)).off + 1, none⟩ = some (.int .i64 x.s) ∧ W.cell? ⟨(ax.add (i * 4)).block, (ax.add (i * 4)).off + 2, none⟩ = some (.bool x.d) ∧ W.cell? ⟨(ax.add (i * 4)).block, (ax.add (i * 4)).off + 3, none⟩ = some (.slice x.v.a x.v.l.length x.v.c)) := Lib.hid (fun W hb => by
              obtain ⟨h1, h2, -, -⟩ := HLY.out W hb
              unfold AtE at h1
              simp only [HMZ.out.1, HMZ.out.2] at h1
              exact ⟨h1, h2⟩)
            have RR : Hid (Below w8.heap.size w8 w8) := Lib.hid (Below.refl _ _)
            clear HPK a0 a1 a2 a3
            go_region_held3 (fun W => (W.cell? (ad.add (i * 4)) = some (.slice ka km kc) ∧ W.cell? ⟨(ad.add (i * 4)).block, (ad.add (i * 4)).off + 1, none⟩ = some (.int .i64 qs) ∧ W.cell? ⟨(ad.add (i * 4)).block, (ad.add (i * 4)).off + 2, none⟩ = some (.bool qd) ∧ W.cell? ⟨(ad.add (i * 4)).block, (ad.add (i * 4)).off + 3, none⟩ = some (.slice va vm vc)) ∧ W.cell? (ax.add (i * 4)) = some (.slice x.k.a x.k.l.length x.k.c) ∧ W.cell? ⟨(ax.add (i * 4)).block, (ax.add (i * 4)).off + 1, none⟩ = some (.int .i64 x.s) ∧ W.cell? ⟨(ax.add (i * 4)).block, (ax.add (i * 4)).off + 2, none⟩ = some (.bool x.d) ∧ W.cell? ⟨(ax.add (i * 4)).block, (ax.add (i * 4)).off + 3, none⟩ = some (.slice x.v.a x.v.l.length x.v.c)) (first | exact HLS.out _ RR.out | exact HLS.out _ RR.out.drew | go_keep) (first
              | (go_at_call 19; refine (HSAM.out _ (by first | exact (HLY.out _ RR.out).2.2.1 | exact (HLY.out _ RR.out.drew).2.2.1) (by first | exact (HLY.out _ RR.out).2.2.2 | exact (HLY.out _ RR.out.drew).2.2.2)).mono ?_; rintro e w11 ⟨rfl, hz⟩; have RR : Hid (Below w8.heap.size w8 w11) := Lib.hid (below_then (by first | exact RR.out | exact RR.out.drew) hz); clear hz))
            all_goals
              have HV0 : Hid (OwI w w6 w5.heap.size (some ad) li b9 i w11 t8 P lh Ah ch) := Lib.hid (HV.out.1.below F6.out RR.out)
              have HP0 := Lib.hid HV.out.2
              have HROW : Hid (∀ W, Mz (EnB [(⟨⟨ka, kc, kl⟩, qs, qd, ⟨va, vc, vl⟩⟩ : En)]) w11 W → W.cell? (ad.add (i * 4)) = some (.slice ka km kc) ∧ W.cell? ⟨(ad.add (i * 4)).block, (ad.add (i * 4)).off + 1, none⟩ = some (.int .i64 qs) ∧ W.cell? ⟨(ad.add (i * 4)).block, (ad.add (i * 4)).off + 2, none⟩ = some (.bool qd) ∧ W.cell? ⟨(ad.add (i * 4)).block, (ad.add (i * 4)).off + 3, none⟩ = some (.slice va vm vc)) := Lib.hid (fun W hm => by
                have h1 := lies_entry_at (Erow.lies (HV0.out.row_mark F6.out HQ.out.1 hm)) HQ.out.1
                unfold AtE at h1
                simp only [HMZ.out.1, HMZ.out.2] at h1
                exact h1)
              have HSPQ : Hid (SpotZ (EnB [(⟨⟨ka, kc, kl⟩, qs, qd, ⟨va, vc, vl⟩⟩ : En)]) w11 ka km ∧ SpotZ (EnB [(⟨⟨ka, kc, kl⟩, qs, qd, ⟨va, vc, vl⟩⟩ : En)]) w11 va vm) := Lib.hid (by
                have h1 := HV0.out.spots F6.out HQ.out.1
                simp only [HMZ.out.1, HMZ.out.2] at h1
                exact h1)
              have hm0 : Hid (Mz (EnB [(⟨⟨ka, kc, kl⟩, qs, qd, ⟨va, vc, vl⟩⟩ : En)]) w11 w11) := Lib.hid (Mz.refl _ _)
              have km9 : km ≤ 140737488351232 := by have := HQB.out.2.2.1; simp only [HMZ.out.1] at this; exact this
              have vm9 : vm ≤ 140737488351232 := by have := HQB.out.2.2.2; simp only [HMZ.out.2] at this; exact this
              obtain ⟨a0, a1, a2, a3⟩ := HROW.out w11 hm0.out
              clear HLY HLS HV RR HSAM
              go_wp2_with fail
              go_loopw [71] (fun t71 wr => ∃ k : Nat, k ≤ km ∧ t71 = .int .i64 k ∧ Hid (Mz (EnB [(⟨⟨ka, kc, kl⟩, qs, qd, ⟨va, vc, vl⟩⟩ : En)]) w11 wr)) (fun t71 _ => km - (intOf t71).toNat)
              case atStart => exact ⟨0, by omega, rfl, hm0⟩
              case round =>
                obtain ⟨k, hk, rfl, hmk⟩ := hrel
                obtain ⟨a0, a1, a2, a3⟩ := HROW.out wr hmk.out
                by_cases hltk : k < km
                · obtain ⟨gx, v, e, d0, f0, hset⟩ := hmk.out.mark HSPQ.out.1 (k := k) hltk
                  subst e
                  have HSET := Lib.hid hset
                  have i1 : (k : Int) < km := by omega
                  clear hset
                  go_upto_region 22 with fail
                  have HSC : Hid (∀ y, (fun W : World => W.cell? (ad.add (i * 4)) = some (.slice (some ⟨gx, 0, none⟩) km kc)) (wr.setCell ⟨gx, k, none⟩ (.int .u8 y)).drew) := Lib.hid (fun y => (HROW.out _ (HSET.out y)).1)
                  refine wp_region_noPanic ?_
                  refine wp_region_held (S := fun W => W.cell? (ad.add (i * 4)) = some (.slice (some ⟨gx, 0, none⟩) km kc)) (by kernel_rfl) ?_
                  change wpAnyH _ _ _ _ _ _ _ _ (World.drew _)
                  have s0 : (fun W : World => W.cell? (ad.add (i * 4)) = some (.slice (some ⟨gx, 0, none⟩) km kc)) wr.drew := a0
                  refine wpAnyH_take (i := 0) (v := .slice (some ad) n c6) rfl (by kernel_rfl) (by kernel_rfl) (by kernel_rfl) (fun _ _ _ h => h) (Or.inl ⟨by first | kernel_rfl | rfl, fun _ hS => by go_simp⟩) s0 ?_
                  try simp only [Act.put, List.getElem_toArray, List.getElem_cons_zero, List.getElem_cons_succ, List.setIfInBounds_toArray, List.set_cons_zero, List.set_cons_succ]
                  refine wpAnyH_take (i := 1) (v := .int .i64 (i : Int)) rfl (by kernel_rfl) (by kernel_rfl) (by kernel_rfl) (fun _ _ _ h => h) (Or.inl ⟨by first | kernel_rfl | rfl, fun _ hS => by go_simp⟩) s0 ?_
                  try simp only [Act.put, List.getElem_toArray, List.getElem_cons_zero, List.getElem_cons_succ, List.setIfInBounds_toArray, List.set_cons_zero, List.set_cons_succ]
                  refine wpAnyH_take (i := 2) (v := .pointer (some (ad.add (i * 4)))) rfl (by kernel_rfl) (by kernel_rfl) (by kernel_rfl) (fun _ _ _ h => h) (Or.inl ⟨by first | kernel_rfl | rfl, fun _ hS => by go_simp⟩) s0 ?_
                  try simp only [Act.put, List.getElem_toArray, List.getElem_cons_zero, List.getElem_cons_succ, List.setIfInBounds_toArray, List.set_cons_zero, List.set_cons_succ]
                  refine wpAnyH_take (i := 3) (v := .pointer (some (ad.add (i * 4)))) rfl (by kernel_rfl) (by kernel_rfl) (by kernel_rfl) (fun _ _ _ h => h) (Or.inl ⟨by first | kernel_rfl | rfl, fun _ hS => by go_simp⟩) s0 ?_
                  try simp only [Act.put, List.getElem_toArray, List.getElem_cons_zero, List.getElem_cons_succ, List.setIfInBounds_toArray, List.set_cons_zero, List.set_cons_succ]
                  refine wpAnyH_take (i := 4) (v := .slice (some ⟨gx, 0, none⟩) km kc) rfl (by kernel_rfl) (by kernel_rfl) (by kernel_rfl) (fun _ _ _ h => h) (Or.inl ⟨by first | kernel_rfl | rfl, fun _ hS => by have k1 := hS; go_simp⟩) s0 ?_
                  try simp only [Act.put, List.getElem_toArray, List.getElem_cons_zero, List.getElem_cons_succ, List.setIfInBounds_toArray, List.set_cons_zero, List.set_cons_succ]
                  refine wpAnyH_take (i := 5) (v := .int .i64 (k : Int)) rfl (by kernel_rfl) (by kernel_rfl) (by kernel_rfl) (fun _ _ _ h => h) (Or.inl ⟨by first | kernel_rfl | rfl, fun _ hS => by go_simp⟩) s0 ?_
                  try simp only [Act.put, List.getElem_toArray, List.getElem_cons_zero, List.getElem_cons_succ, List.setIfInBounds_toArray, List.set_cons_zero, List.set_cons_succ]
                  refine wpAnyH_take (i := 6) (v := .slice (some ad) n c6) rfl (by kernel_rfl) (by kernel_rfl) (by kernel_rfl) (fun _ _ _ h => h) (Or.inl ⟨by first | kernel_rfl | rfl, fun _ hS => by go_simp⟩) s0 ?_
                  try simp only [Act.put, List.getElem_toArray, List.getElem_cons_zero, List.getElem_cons_succ, List.setIfInBounds_toArray, List.set_cons_zero, List.set_cons_succ]
                  refine wpAnyH_take (i := 7) (v := .int .i64 (i : Int)) rfl (by kernel_rfl) (by kernel_rfl) (by kernel_rfl) (fun _ _ _ h => h) (Or.inl ⟨by first | kernel_rfl | rfl, fun _ hS => by go_simp⟩) s0 ?_
                  try simp only [Act.put, List.getElem_toArray, List.getElem_cons_zero, List.getElem_cons_succ, List.setIfInBounds_toArray, List.set_cons_zero, List.set_cons_succ]
                  refine wpAnyH_take (i := 8) (v := .pointer (some (ad.add (i * 4)))) rfl (by kernel_rfl) (by kernel_rfl) (by kernel_rfl) (fun _ _ _ h => h) (Or.inl ⟨by first | kernel_rfl | rfl, fun _ hS => by go_simp⟩) s0 ?_
                  try simp only [Act.put, List.getElem_toArray, List.getElem_cons_zero, List.getElem_cons_succ, List.setIfInBounds_toArray, List.set_cons_zero, List.set_cons_succ]
                  refine wpAnyH_take (i := 9) (v := .pointer (some (ad.add (i * 4)))) rfl (by kernel_rfl) (by kernel_rfl) (by kernel_rfl) (fun _ _ _ h => h) (Or.inl ⟨by first | kernel_rfl | rfl, fun _ hS => by go_simp⟩) s0 ?_
                  try simp only [Act.put, List.getElem_toArray, List.getElem_cons_zero, List.getElem_cons_succ, List.setIfInBounds_toArray, List.set_cons_zero, List.set_cons_succ]
                  refine wpAnyH_take (i := 10) (v := .slice (some ⟨gx, 0, none⟩) km kc) rfl (by kernel_rfl) (by kernel_rfl) (by kernel_rfl) (fun _ _ _ h => h) (Or.inl ⟨by first | kernel_rfl | rfl, fun _ hS => by have k1 := hS; go_simp⟩) s0 ?_
                  try simp only [Act.put, List.getElem_toArray, List.getElem_cons_zero, List.getElem_cons_succ, List.setIfInBounds_toArray, List.set_cons_zero, List.set_cons_succ]
                  refine wpAnyH_take (i := 11) (v := .int .i64 (k : Int)) rfl (by kernel_rfl) (by kernel_rfl) (by kernel_rfl) (fun _ _ _ h => h) (Or.inl ⟨by first | kernel_rfl | rfl, fun _ hS => by go_simp⟩) s0 ?_
                  try simp only [Act.put, List.getElem_toArray, List.getElem_cons_zero, List.getElem_cons_succ, List.setIfInBounds_toArray, List.set_cons_zero, List.set_cons_succ]
                  refine wpAnyH_take (i := 12) (v := .pointer (some ⟨gx, k, none⟩)) rfl (by kernel_rfl) (by kernel_rfl) (by kernel_rfl) (fun _ _ _ h => h) (Or.inl ⟨by first | kernel_rfl | rfl, fun _ hS => by go_simp⟩) s0 ?_
                  try simp only [Act.put, List.getElem_toArray, List.getElem_cons_zero, List.getElem_cons_succ, List.setIfInBounds_toArray, List.set_cons_zero, List.set_cons_succ]
                  refine wpAnyH_ready (rs := [13]) (by kernel_rfl) (by simp) ?_
                  refine AllReadyH.cons rfl (fun K hK => ?_) AllReadyH.nil
                  go_simp
                  refine hK.out _ _ s0 (fun _ => ?_)
                  clear hK K
                  try simp only [Act.put, List.getElem_toArray, List.getElem_cons_zero, List.getElem_cons_succ, List.setIfInBounds_toArray, List.set_cons_zero, List.set_cons_succ]
                  refine wpAnyH_ready (rs := [14]) (by kernel_rfl) (by simp) ?_
                  refine AllReadyH.cons rfl (fun K hK => ?_) AllReadyH.nil
                  go_simp
                  refine hK.out _ _ s0 (fun _ => ?_)
                  clear hK K
                  try simp only [Act.put, List.getElem_toArray, List.getElem_cons_zero, List.getElem_cons_succ, List.setIfInBounds_toArray, List.set_cons_zero, List.set_cons_succ]
                  refine wpAnyH_take (i := 15) (v := .pointer (some ⟨gx, k, none⟩)) rfl (by kernel_rfl) (by kernel_rfl) (by kernel_rfl) (fun _ _ _ h => h) (Or.inl ⟨by first | kernel_rfl | rfl, fun _ hS => by go_simp⟩) s0 ?_
                  try simp only [Act.put, List.getElem_toArray, List.getElem_cons_zero, List.getElem_cons_succ, List.setIfInBounds_toArray, List.set_cons_zero, List.set_cons_succ]
                  refine wpAnyH_ready (rs := [16]) (by kernel_rfl) (by simp) ?_
                  refine AllReadyH.cons rfl (fun K hK => ?_) AllReadyH.nil
                  go_simp
                  refine hK.out _ _ (by first | exact HSC.out _ | skip) (fun _ => ?_)
                  clear hK K
                  try simp only [Act.put, List.getElem_toArray, List.getElem_cons_zero, List.getElem_cons_succ, List.setIfInBounds_toArray, List.set_cons_zero, List.set_cons_succ]
                  refine wpAnyH_done (by kernel_rfl) (NoPanic.normal ?_) _
                  try simp only [Act.put, List.getElem_toArray, List.getElem_cons_zero, List.getElem_cons_succ, List.setIfInBounds_toArray, List.set_cons_zero, List.set_cons_succ]
                  go_wp2_with fail
                  go_roundw
                  case rel => exact ⟨k + 1, by omega, by go_num, Lib.hid (by first | exact (HSET.out _).drew | exact HSET.out _)⟩
                  case measure => simp [intOf]; omega
                · obtain rfl : k = km := by omega
                  clear hltk
                  clear a0 a1 a2 a3
                  generalize wr = w12a at hmk ⊢
                  obtain ⟨a0, a1, a2, a3⟩ := HROW.out w12a hmk.out
                  go_wp2_with fail
                  go_loopw [97] (fun t97 wr => ∃ k : Nat, k ≤ vm ∧ t97 = .int .i64 k ∧ Hid (Mz (EnB [(⟨⟨ka, kc, kl⟩, qs, qd, ⟨va, vc, vl⟩⟩ : En)]) w11 wr)) (fun t97 _ => vm - (intOf t97).toNat)
                  case atStart => exact ⟨0, by omega, rfl, hmk⟩
                  case round =>
                    obtain ⟨k, hk, rfl, hmk⟩ := hrel
                    obtain ⟨a0, a1, a2, a3⟩ := HROW.out wr hmk.out
                    by_cases hltk : k < vm
                    · obtain ⟨gx, v, e, d0, f0, hset⟩ := hmk.out.mark HSPQ.out.2 (k := k) hltk
                      subst e
                      have HSET := Lib.hid hset
                      have i1 : (k : Int) < vm := by omega
                      clear hset
                      go_upto_region 27 with fail
                      have HSC : Hid (∀ y, (fun W : World => W.cell? ⟨(ad.add (i * 4)).block, (ad.add (i * 4)).off + 3, none⟩ = some (.slice (some ⟨gx, 0, none⟩) vm vc)) (wr.setCell ⟨gx, k, none⟩ (.int .u8 y)).drew) := Lib.hid (fun y => (HROW.out _ (HSET.out y)).2.2.2)
                      refine wp_region_noPanic ?_
                      refine wp_region_held (S := fun W => W.cell? ⟨(ad.add (i * 4)).block, (ad.add (i * 4)).off + 3, none⟩ = some (.slice (some ⟨gx, 0, none⟩) vm vc)) (by kernel_rfl) ?_
                      change wpAnyH _ _ _ _ _ _ _ _ (World.drew _)
                      have s0 : (fun W : World => W.cell? ⟨(ad.add (i * 4)).block, (ad.add (i * 4)).off + 3, none⟩ = some (.slice (some ⟨gx, 0, none⟩) vm vc)) wr.drew := a3
                      refine wpAnyH_take (i := 0) (v := .slice (some ad) n c6) rfl (by kernel_rfl) (by kernel_rfl) (by kernel_rfl) (fun _ _ _ h => h) (Or.inl ⟨by first | kernel_rfl | rfl, fun _ hS => by go_simp⟩) s0 ?_
                      try simp only [Act.put, List.getElem_toArray, List.getElem_cons_zero, List.getElem_cons_succ, List.setIfInBounds_toArray, List.set_cons_zero, List.set_cons_succ]
                      refine wpAnyH_take (i := 1) (v := .int .i64 (i : Int)) rfl (by kernel_rfl) (by kernel_rfl) (by kernel_rfl) (fun _ _ _ h => h) (Or.inl ⟨by first | kernel_rfl | rfl, fun _ hS => by go_simp⟩) s0 ?_
                      try simp only [Act.put, List.getElem_toArray, List.getElem_cons_zero, List.getElem_cons_succ, List.setIfInBounds_toArray, List.set_cons_zero, List.set_cons_succ]
                      refine wpAnyH_take (i := 2) (v := .pointer (some (ad.add (i * 4)))) rfl (by kernel_rfl) (by kernel_rfl) (by kernel_rfl) (fun _ _ _ h => h) (Or.inl ⟨by first | kernel_rfl | rfl, fun _ hS => by go_simp⟩) s0 ?_
                      try simp only [Act.put, List.getElem_toArray, List.getElem_cons_zero, List.getElem_cons_succ, List.setIfInBounds_toArray, List.set_cons_zero, List.set_cons_succ]
                      refine wpAnyH_take (i := 3) (v := .pointer (some ⟨(ad.add (i * 4)).block, (ad.add (i * 4)).off + 3, none⟩)) rfl (by kernel_rfl) (by kernel_rfl) (by kernel_rfl) (fun _ _ _ h => h) (Or.inl ⟨by first | kernel_rfl | rfl, fun _ hS => by go_simp⟩) s0 ?_
                      try simp only [Act.put, List.getElem_toArray, List.getElem_cons_zero, List.getElem_cons_succ, List.setIfInBounds_toArray, List.set_cons_zero, List.set_cons_succ]
                      refine wpAnyH_take (i := 4) (v := .slice (some ⟨gx, 0, none⟩) vm vc) rfl (by kernel_rfl) (by kernel_rfl) (by kernel_rfl) (fun _ _ _ h => h) (Or.inl ⟨by first | kernel_rfl | rfl, fun _ hS => by have k1 := hS; go_simp⟩) s0 ?_
                      try simp only [Act.put, List.getElem_toArray, List.getElem_cons_zero, List.getElem_cons_succ, List.setIfInBounds_toArray, List.set_cons_zero, List.set_cons_succ]
                      refine wpAnyH_take (i := 5) (v := .int .i64 (k : Int)) rfl (by kernel_rfl) (by kernel_rfl) (by kernel_rfl) (fun _ _ _ h => h) (Or.inl ⟨by first | kernel_rfl | rfl, fun _ hS => by go_simp⟩) s0 ?_
                      try simp only [Act.put, List.getElem_toArray, List.getElem_cons_zero, List.getElem_cons_succ, List.setIfInBounds_toArray, List.set_cons_zero, List.set_cons_succ]
                      refine wpAnyH_take (i := 6) (v := .slice (some ad) n c6) rfl (by kernel_rfl) (by kernel_rfl) (by kernel_rfl) (fun _ _ _ h => h) (Or.inl ⟨by first | kernel_rfl | rfl, fun _ hS => by go_simp⟩) s0 ?_
                      try simp only [Act.put, List.getElem_toArray, List.getElem_cons_zero, List.getElem_cons_succ, List.setIfInBounds_toArray, List.set_cons_zero, List.set_cons_succ]
                      refine wpAnyH_take (i := 7) (v := .int .i64 (i : Int)) rfl (by kernel_rfl) (by kernel_rfl) (by kernel_rfl) (fun _ _ _ h => h) (Or.inl ⟨by first | kernel_rfl | rfl, fun _ hS => by go_simp⟩) s0 ?_
                      try simp only [Act.put, List.getElem_toArray, List.getElem_cons_zero, List.getElem_cons_succ, List.setIfInBounds_toArray, List.set_cons_zero, List.set_cons_succ]
                      refine wpAnyH_take (i := 8) (v := .pointer (some (ad.add (i * 4)))) rfl (by kernel_rfl) (by kernel_rfl) (by kernel_rfl) (fun _ _ _ h => h) (Or.inl ⟨by first | kernel_rfl | rfl, fun _ hS => by go_simp⟩) s0 ?_
                      try simp only [Act.put, List.getElem_toArray, List.getElem_cons_zero, List.getElem_cons_succ, List.setIfInBounds_toArray, List.set_cons_zero, List.set_cons_succ]
                      refine wpAnyH_take (i := 9) (v := .pointer (some ⟨(ad.add (i * 4)).block, (ad.add (i * 4)).off + 3, none⟩)) rfl (by kernel_rfl) (by kernel_rfl) (by kernel_rfl) (fun _ _ _ h => h) (Or.inl ⟨by first | kernel_rfl | rfl, fun _ hS => by go_simp⟩) s0 ?_
                      try simp only [Act.put, List.getElem_toArray, List.getElem_cons_zero, List.getElem_cons_succ, List.setIfInBounds_toArray, List.set_cons_zero, List.set_cons_succ]
                      refine wpAnyH_take (i := 10) (v := .slice (some ⟨gx, 0, none⟩) vm vc) rfl (by kernel_rfl) (by kernel_rfl) (by kernel_rfl) (fun _ _ _ h => h) (Or.inl ⟨by first | kernel_rfl | rfl, fun _ hS => by have k1 := hS; go_simp⟩) s0 ?_
                      try simp only [Act.put, List.getElem_toArray, List.getElem_cons_zero, List.getElem_cons_succ, List.setIfInBounds_toArray, List.set_cons_zero, List.set_cons_succ]
                      refine wpAnyH_take (i := 11) (v := .int .i64 (k : Int)) rfl (by kernel_rfl) (by kernel_rfl) (by kernel_rfl) (fun _ _ _ h => h) (Or.inl ⟨by first | kernel_rfl | rfl, fun _ hS => by go_simp⟩) s0 ?_
                      try simp only [Act.put, List.getElem_toArray, List.getElem_cons_zero, List.getElem_cons_succ, List.setIfInBounds_toArray, List.set_cons_zero, List.set_cons_succ]
                      refine wpAnyH_take (i := 12) (v := .pointer (some ⟨gx, k, none⟩)) rfl (by kernel_rfl) (by kernel_rfl) (by kernel_rfl) (fun _ _ _ h => h) (Or.inl ⟨by first | kernel_rfl | rfl, fun _ hS => by go_simp⟩) s0 ?_
                      try simp only [Act.put, List.getElem_toArray, List.getElem_cons_zero, List.getElem_cons_succ, List.setIfInBounds_toArray, List.set_cons_zero, List.set_cons_succ]
                      refine wpAnyH_ready (rs := [13]) (by kernel_rfl) (by simp) ?_
                      refine AllReadyH.cons rfl (fun K hK => ?_) AllReadyH.nil
                      go_simp
                      refine hK.out _ _ s0 (fun _ => ?_)
                      clear hK K
                      try simp only [Act.put, List.getElem_toArray, List.getElem_cons_zero, List.getElem_cons_succ, List.setIfInBounds_toArray, List.set_cons_zero, List.set_cons_succ]
                      refine wpAnyH_ready (rs := [14]) (by kernel_rfl) (by simp) ?_
                      refine AllReadyH.cons rfl (fun K hK => ?_) AllReadyH.nil
                      go_simp
                      refine hK.out _ _ s0 (fun _ => ?_)
                      clear hK K
                      try simp only [Act.put, List.getElem_toArray, List.getElem_cons_zero, List.getElem_cons_succ, List.setIfInBounds_toArray, List.set_cons_zero, List.set_cons_succ]
                      refine wpAnyH_take (i := 15) (v := .pointer (some ⟨gx, k, none⟩)) rfl (by kernel_rfl) (by kernel_rfl) (by kernel_rfl) (fun _ _ _ h => h) (Or.inl ⟨by first | kernel_rfl | rfl, fun _ hS => by go_simp⟩) s0 ?_
                      try simp only [Act.put, List.getElem_toArray, List.getElem_cons_zero, List.getElem_cons_succ, List.setIfInBounds_toArray, List.set_cons_zero, List.set_cons_succ]
                      refine wpAnyH_ready (rs := [16]) (by kernel_rfl) (by simp) ?_
                      refine AllReadyH.cons rfl (fun K hK => ?_) AllReadyH.nil
                      go_simp
                      refine hK.out _ _ (by first | exact HSC.out _ | skip) (fun _ => ?_)
                      clear hK K
                      try simp only [Act.put, List.getElem_toArray, List.getElem_cons_zero, List.getElem_cons_succ, List.setIfInBounds_toArray, List.set_cons_zero, List.set_cons_succ]
                      refine wpAnyH_done (by kernel_rfl) (NoPanic.normal ?_) _
                      try simp only [Act.put, List.getElem_toArray, List.getElem_cons_zero, List.getElem_cons_succ, List.setIfInBounds_toArray, List.set_cons_zero, List.set_cons_succ]
                      go_wp2_with fail
                      go_roundw
                      case rel => exact ⟨k + 1, by omega, by go_num, Lib.hid (by first | exact (HSET.out _).drew | exact HSET.out _)⟩
                      case measure => simp [intOf]; omega
                    · obtain rfl : k = vm := by omega
                      clear hltk
                      go_wp2_with fail
                      go_roundw
                      case rel => exact ⟨i + 1, kh, t8, P, lh, Ah, ch, by omega, by go_num, rfl, Lib.hid ⟨HV0.out.mark F6.out HQ.out.1 hmk.out, HP0.out.1, HP0.out.2.1, HP0.out.2.2⟩⟩
                      case measure => simp [intOf]; omega
          · go_upto_region 17 with (go_at_call 16; refine HPK.out.mono ?_; rintro e w8 ⟨t8, rfl, p1, p2⟩; have HV : Hid (OwI w w6 w5.heap.size (some ad) li b9 i w8 t8 P lh Ah ch ∧ (ers lh).Perm P ∧ lh.length = kh ∧ kh ≤ i + 1) := Lib.hid ⟨p1, HL.out.1, HL.out.2.1, by have := HL.out.2.2; omega⟩; clear p1 p2)
            have HLY : Hid (∀ W, Below w8.heap.size w8 W → AtE W (ad.add (i * 4)) (⟨⟨ka, kc, kl⟩, qs, qd, ⟨va, vc, vl⟩⟩ : En) ∧ AtE W (ax.add (i * 4)) x ∧ Below w.heap.size w W ∧ EIn W (⟨⟨ka, kc, kl⟩, qs, qd, ⟨va, vc, vl⟩⟩ : En)) := Lib.hid (fun W hb => by
              have h1 := HV.out.1.below F6.out hb
              exact ⟨lies_entry_at (Erow.lies (h1.row F6.out)) HQ.out.1, (HAX.out W h1.low).1, h1.low, HIN.out W (h1.here F6.out HQ.out.1)⟩)
            have HLS : Hid (∀ W, Below w8.heap.size w8 W → (W.cell? (ad.add (i * 4)) = some (.slice ka km kc) ∧ W.cell? ⟨(ad.add (i * 4)).block, (ad.add (i * 4)).off + 1, none⟩ = some (.int .i64 qs) ∧ W.cell? ⟨(ad.add (i * 4)).block, (ad.add (i * 4)).off + 2, none⟩ = some (.bool qd) ∧ W.cell? ⟨(ad.add (i * 4)).block, (ad.add (i * 4)).off + 3, none⟩ = some (.slice va vm vc)) ∧ W.cell? (ax.add (i * 4)) = some (.slice x.k.a x.k.l.length x.k.c) ∧ W.cell? ⟨(ax.add (i * 4)).block, (ax.add (i * 4)).off + 1, none⟩ = some (.int .i64 x.s) ∧ W.cell? ⟨(ax.add (i * 4)).block, (ax.add (i * 4)).off + 2, none⟩ = some (.bool x.d) ∧ W.cell? ⟨(ax.add (i * 4)).block, (ax.add (i * 4)).off + 3, none⟩ = some (.slice x.v.a x.v.l.length x.v.c)) := Lib.hid (fun W hb => by
              obtain ⟨h1, h2, -, -⟩ := HLY.out W hb
              unfold AtE at h1
              simp only [HMZ.out.1, HMZ.out.2] at h1
              exact ⟨h1, h2⟩)
            have RR : Hid (Below w8.heap.size w8 w8) := Lib.hid (Below.refl _ _)
            clear HPK a0 a1 a2 a3
            go_region_held3 (fun W => (W.cell? (ad.add (i * 4)) = some (.slice ka km kc) ∧ W.cell? ⟨(ad.add (i * 4)).block, (ad.add (i * 4)).off + 1, none⟩ = some (.int .i64 qs) ∧ W.cell? ⟨(ad.add (i * 4)).block, (ad.add (i * 4)).off + 2, none⟩ = some (.bool qd) ∧ W.cell? ⟨(ad.add (i * 4)).block, (ad.add (i * 4)).off + 3, none⟩ = some (.slice va vm vc)) ∧ W.cell? (ax.add (i * 4)) = some (.slice x.k.a x.k.l.length x.k.c) ∧ W.cell? ⟨(ax.add (i * 4)).block, (ax.add (i * 4)).off + 1, none⟩ = some (.int .i64 x.s) ∧ W.cell? ⟨(ax.add (i * 4)).block, (ax.add (i * 4)).off + 2, none⟩ = some (.bool x.d) ∧ W.cell? ⟨(ax.add (i * 4)).block, (ax.add (i * 4)).off + 3, none⟩ = some (.slice x.v.a x.v.l.length x.v.c)) (first | exact HLS.out _ RR.out | exact HLS.out _ RR.out.drew | go_keep) (first
              | (go_at_call 19; refine (HSAM.out _ (by first | exact (HLY.out _ RR.out).2.2.1 | exact (HLY.out _ RR.out.drew).2.2.1) (by first | exact (HLY.out _ RR.out).2.2.2 | exact (HLY.out _ RR.out.drew).2.2.2)).mono ?_; rintro e w11 ⟨rfl, hz⟩; have RR : Hid (Below w8.heap.size w8 w11) := Lib.hid (below_then (by first | exact RR.out | exact RR.out.drew) hz); clear hz))
            all_goals
              have HV0 : Hid (OwI w w6 w5.heap.size (some ad) li b9 i w11 t8 P lh Ah ch) := Lib.hid (HV.out.1.below F6.out RR.out)
              have HP0 := Lib.hid HV.out.2
              have HROW : Hid (∀ W, Mz (EnB [(⟨⟨ka, kc, kl⟩, qs, qd, ⟨va, vc, vl⟩⟩ : En)]) w11 W → W.cell? (ad.add (i * 4)) = some (.slice ka km kc) ∧ W.cell? ⟨(ad.add (i * 4)).block, (ad.add (i * 4)).off + 1, none⟩ = some (.int .i64 qs) ∧ W.cell? ⟨(ad.add (i * 4)).block, (ad.add (i * 4)).off + 2, none⟩ = some (.bool qd) ∧ W.cell? ⟨(ad.add (i * 4)).block, (ad.add (i * 4)).off + 3, none⟩ = some (.slice va vm vc)) := Lib.hid (fun W hm => by
                have h1 := lies_entry_at (Erow.lies (HV0.out.row_mark F6.out HQ.out.1 hm)) HQ.out.1
                unfold AtE at h1
                simp only [HMZ.out.1, HMZ.out.2] at h1
                exact h1)
              have HSPQ : Hid (SpotZ (EnB [(⟨⟨ka, kc, kl⟩, qs, qd, ⟨va, vc, vl⟩⟩ : En)]) w11 ka km ∧ SpotZ (EnB [(⟨⟨ka, kc, kl⟩, qs, qd, ⟨va, vc, vl⟩⟩ : En)]) w11 va vm) := Lib.hid (by
                have h1 := HV0.out.spots F6.out HQ.out.1
                simp only [HMZ.out.1, HMZ.out.2] at h1
                exact h1)
              have hm0 : Hid (Mz (EnB [(⟨⟨ka, kc, kl⟩, qs, qd, ⟨va, vc, vl⟩⟩ : En)]) w11 w11) := Lib.hid (Mz.refl _ _)
              have km9 : km ≤ 140737488351232 := by have := HQB.out.2.2.1; simp only [HMZ.out.1] at this; exact this
              have vm9 : vm ≤ 140737488351232 := by have := HQB.out.2.2.2; simp only [HMZ.out.2] at this; exact this
              obtain ⟨a0, a1, a2, a3⟩ := HROW.out w11 hm0.out
              clear HLY HLS HV RR HSAM
              go_wp2_with fail
              go_loopw [71] (fun t71 wr => ∃ k : Nat, k ≤ km ∧ t71 = .int .i64 k ∧ Hid (Mz (EnB [(⟨⟨ka, kc, kl⟩, qs, qd, ⟨va, vc, vl⟩⟩ : En)]) w11 wr)) (fun t71 _ => km - (intOf t71).toNat)
              case atStart => exact ⟨0, by omega, rfl, hm0⟩
              case round =>
                obtain ⟨k, hk, rfl, hmk⟩ := hrel
                obtain ⟨a0, a1, a2, a3⟩ := HROW.out wr hmk.out
                by_cases hltk : k < km
                · obtain ⟨gx, v, e, d0, f0, hset⟩ := hmk.out.mark HSPQ.out.1 (k := k) hltk
                  subst e
                  have HSET := Lib.hid hset
                  have i1 : (k : Int) < km := by omega
                  clear hset
                  go_upto_region 22 with fail
                  have HSC : Hid (∀ y, (fun W : World => W.cell? (ad.add (i * 4)) = some (.slice (some ⟨gx, 0, none⟩) km kc)) (wr.setCell ⟨gx, k, none⟩ (.int .u8 y)).drew) := Lib.hid (fun y => (HROW.out _ (HSET.out y)).1)
                  refine wp_region_noPanic ?_
                  refine wp_region_held (S := fun W => W.cell? (ad.add (i * 4)) = some (.slice (some ⟨gx, 0, none⟩) km kc)) (by kernel_rfl) ?_
                  change wpAnyH _ _ _ _ _ _ _ _ (World.drew _)
                  have s0 : (fun W : World => W.cell? (ad.add (i * 4)) = some (.slice (some ⟨gx, 0, none⟩) km kc)) wr.drew := a0
                  refine wpAnyH_take (i := 0) (v := .slice (some ad) n c6) rfl (by kernel_rfl) (by kernel_rfl) (by kernel_rfl) (fun _ _ _ h => h) (Or.inl ⟨by first | kernel_rfl | rfl, fun _ hS => by go_simp⟩) s0 ?_
                  try simp only [Act.put, List.getElem_toArray, List.getElem_cons_zero, List.getElem_cons_succ, List.setIfInBounds_toArray, List.set_cons_zero, List.set_cons_succ]
                  refine wpAnyH_take (i := 1) (v := .int .i64 (i : Int)) rfl (by kernel_rfl) (by kernel_rfl) (by kernel_rfl) (fun _ _ _ h => h) (Or.inl ⟨by first | kernel_rfl | rfl, fun _ hS => by go_simp⟩) s0 ?_
                  try simp only [Act.put, List.getElem_toArray, List.getElem_cons_zero, List.getElem_cons_succ, List.setIfInBounds_toArray, List.set_cons_zero, List.set_cons_succ]
                  refine wpAnyH_take (i := 2) (v := .pointer (some (ad.add (i * 4)))) rfl (by kernel_rfl) (by kernel_rfl) (by kernel_rfl) (fun _ _ _ h => h) (Or.inl ⟨by first | kernel_rfl | rfl, fun _ hS => by go_simp⟩) s0 ?_
                  try simp only [Act.put, List.getElem_toArray, List.getElem_cons_zero, List.getElem_cons_succ, List.setIfInBounds_toArray, List.set_cons_zero, List.set_cons_succ]
                  refine wpAnyH_take (i := 3) (v := .pointer (some (ad.add (i * 4)))) rfl (by kernel_rfl) (by kernel_rfl) (by kernel_rfl) (fun _ _ _ h => h) (Or.inl ⟨by first | kernel_rfl | rfl, fun _ hS => by go_simp⟩) s0 ?_
                  try simp only [Act.put, List.getElem_toArray, List.getElem_cons_zero, List.getElem_cons_succ, List.setIfInBounds_toArray, List.set_cons_zero, List.set_cons_succ]
                  refine wpAnyH_take (i := 4) (v := .slice (some ⟨gx, 0, none⟩) km kc) rfl (by kernel_rfl) (by kernel_rfl) (by kernel_rfl) (fun _ _ _ h => h) (Or.inl ⟨by first | kernel_rfl | rfl, fun _ hS => by have k1 := hS; go_simp⟩) s0 ?_
                  try simp only [Act.put, List.getElem_toArray, List.getElem_cons_zero, List.getElem_cons_succ, List.setIfInBounds_toArray, List.set_cons_zero, List.set_cons_succ]
                  refine wpAnyH_take (i := 5) (v := .int .i64 (k : Int)) rfl (by kernel_rfl) (by kernel_rfl) (by kernel_rfl) (fun _ _ _ h => h) (Or.inl ⟨by first | kernel_rfl | rfl, fun _ hS => by go_simp⟩) s0 ?_
                  try simp only [Act.put, List.getElem_toArray, List.getElem_cons_zero, List.getElem_cons_succ, List.setIfInBounds_toArray, List.set_cons_zero, List.set_cons_succ]
                  refine wpAnyH_take (i := 6) (v := .slice (some ad) n c6) rfl (by kernel_rfl) (by kernel_rfl) (by kernel_rfl) (fun _ _ _ h => h) (Or.inl ⟨by first | kernel_rfl | rfl, fun _ hS => by go_simp⟩) s0 ?_
                  try simp only [Act.put, List.getElem_toArray, List.getElem_cons_zero, List.getElem_cons_succ, List.setIfInBounds_toArray, List.set_cons_zero, List.set_cons_succ]
                  refine wpAnyH_take (i := 7) (v := .int .i64 (i : Int)) rfl (by kernel_rfl) (by kernel_rfl) (by kernel_rfl) (fun _ _ _ h => h) (Or.inl ⟨by first | kernel_rfl | rfl, fun _ hS => by go_simp⟩) s0 ?_
                  try simp only [Act.put, List.getElem_toArray, List.getElem_cons_zero, List.getElem_cons_succ, List.setIfInBounds_toArray, List.set_cons_zero, List.set_cons_succ]
                  refine wpAnyH_take (i := 8) (v := .pointer (some (ad.add (i * 4)))) rfl (by kernel_rfl) (by kernel_rfl) (by kernel_rfl) (fun _ _ _ h => h) (Or.inl ⟨by first | kernel_rfl | rfl, fun _ hS => by go_simp⟩) s0 ?_
                  try simp only [Act.put, List.getElem_toArray, List.getElem_cons_zero, List.getElem_cons_succ, List.setIfInBounds_toArray, List.set_cons_zero, List.set_cons_succ]
                  refine wpAnyH_take (i := 9) (v := .pointer (some (ad.add (i * 4)))) rfl (by kernel_rfl) (by kernel_rfl) (by kernel_rfl) (fun _ _ _ h => h) (Or.inl ⟨by first | kernel_rfl | rfl, fun _ hS => by go_simp⟩) s0 ?_
                  try simp only [Act.put, List.getElem_toArray, List.getElem_cons_zero, List.getElem_cons_succ, List.setIfInBounds_toArray, List.set_cons_zero, List.set_cons_succ]
                  refine wpAnyH_take (i := 10) (v := .slice (some ⟨gx, 0, none⟩) km kc) rfl (by kernel_rfl) (by kernel_rfl) (by kernel_rfl) (fun _ _ _ h => h) (Or.inl ⟨by first | kernel_rfl | rfl, fun _ hS => by have k1 := hS; go_simp⟩) s0 ?_
                  try simp only [Act.put, List.getElem_toArray, List.getElem_cons_zero, List.getElem_cons_succ, List.setIfInBounds_toArray, List.set_cons_zero, List.set_cons_succ]
                  refine wpAnyH_take (i := 11) (v := .int .i64 (k : Int)) rfl (by kernel_rfl) (by kernel_rfl) (by kernel_rfl) (fun _ _ _ h => h) (Or.inl ⟨by first | kernel_rfl | rfl, fun _ hS => by go_simp⟩) s0 ?_
                  try simp only [Act.put, List.getElem_toArray, List.getElem_cons_zero, List.getElem_cons_succ, List.setIfInBounds_toArray, List.set_cons_zero, List.set_cons_succ]
                  refine wpAnyH_take (i := 12) (v := .pointer (some ⟨gx, k, none⟩)) rfl (by kernel_rfl) (by kernel_rfl) (by kernel_rfl) (fun _ _ _ h => h) (Or.inl ⟨by first | kernel_rfl | rfl, fun _ hS => by go_simp⟩) s0 ?_
                  try simp only [Act.put, List.getElem_toArray, List.getElem_cons_zero, List.getElem_cons_succ, List.setIfInBounds_toArray, List.set_cons_zero, List.set_cons_succ]
                  refine wpAnyH_ready (rs := [13]) (by kernel_rfl) (by simp) ?_
                  refine AllReadyH.cons rfl (fun K hK => ?_) AllReadyH.nil
                  go_simp
                  refine hK.out _ _ s0 (fun _ => ?_)
                  clear hK K
                  try simp only [Act.put, List.getElem_toArray, List.getElem_cons_zero, List.getElem_cons_succ, List.setIfInBounds_toArray, List.set_cons_zero, List.set_cons_succ]
                  refine wpAnyH_ready (rs := [14]) (by kernel_rfl) (by simp) ?_
                  refine AllReadyH.cons rfl (fun K hK => ?_) AllReadyH.nil
                  go_simp
                  refine hK.out _ _ s0 (fun _ => ?_)
                  clear hK K
                  try simp only [Act.put, List.getElem_toArray, List.getElem_cons_zero, List.getElem_cons_succ, List.setIfInBounds_toArray, List.set_cons_zero, List.set_cons_succ]
                  refine wpAnyH_take (i := 15) (v := .pointer (some ⟨gx, k, none⟩)) rfl (by kernel_rfl) (by kernel_rfl) (by kernel_rfl) (fun _ _ _ h => h) (Or.inl ⟨by first | kernel_rfl | rfl, fun _ hS => by go_simp⟩) s0 ?_
                  try simp only [Act.put, List.getElem_toArray, List.getElem_cons_zero, List.getElem_cons_succ, List.setIfInBounds_toArray, List.set_cons_zero, List.set_cons_succ]
                  refine wpAnyH_ready (rs := [16]) (by kernel_rfl) (by simp) ?_
                  refine AllReadyH.cons rfl (fun K hK => ?_) AllReadyH.nil
                  go_simp
                  refine hK.out _ _ (by first | exact HSC.out _ | skip) (fun _ => ?_)
                  clear hK K
                  try simp only [Act.put, List.getElem_toArray, List.getElem_cons_zero, List.getElem_cons_succ, List.setIfInBounds_toArray, List.set_cons_zero, List.set_cons_succ]
                  refine wpAnyH_done (by kernel_rfl) (NoPanic.normal ?_) _
                  try simp only [Act.put, List.getElem_toArray, List.getElem_cons_zero, List.getElem_cons_succ, List.setIfInBounds_toArray, List.set_cons_zero, List.set_cons_succ]
                  go_wp2_with fail
                  go_roundw
                  case rel => exact ⟨k + 1, by omega, by go_num, Lib.hid (by first | exact (HSET.out _).drew | exact HSET.out _)⟩
                  case measure => simp [intOf]; omega
                · obtain rfl : k = km := by omega
                  clear hltk
                  clear a0 a1 a2 a3
                  generalize wr = w12a at hmk ⊢
                  obtain ⟨a0, a1, a2, a3⟩ := HROW.out w12a hmk.out
                  go_wp2_with fail
                  go_loopw [97] (fun t97 wr => ∃ k : Nat, k ≤ vm ∧ t97 = .int .i64 k ∧ Hid (Mz (EnB [(⟨⟨ka, kc, kl⟩, qs, qd, ⟨va, vc, vl⟩⟩ : En)]) w11 wr)) (fun t97 _ => vm - (intOf t97).toNat)
                  case atStart => exact ⟨0, by omega, rfl, hmk⟩
                  case round =>
                    obtain ⟨k, hk, rfl, hmk⟩ := hrel
                    obtain ⟨a0, a1, a2, a3⟩ := HROW.out wr hmk.out
                    by_cases hltk : k < vm
                    · obtain ⟨gx, v, e, d0, f0, hset⟩ := hmk.out.mark HSPQ.out.2 (k := k) hltk
                      subst e
                      have HSET := Lib.hid hset
                      have i1 : (k : Int) < vm := by omega
                      clear hset
                      go_upto_region 27 with fail
                      have HSC : Hid (∀ y, (fun W : World => W.cell? ⟨(ad.add (i * 4)).block, (ad.add (i * 4)).off + 3, none⟩ = some (.slice (some ⟨gx, 0, none⟩) vm vc)) (wr.setCell ⟨gx, k, none⟩ (.int .u8 y)).drew) := Lib.hid (fun y => (HROW.out _ (HSET.out y)).2.2.2)
                      refine wp_region_noPanic ?_
                      refine wp_region_held (S := fun W => W.cell? ⟨(ad.add (i * 4)).block, (ad.add (i * 4)).off + 3, none⟩ = some (.slice (some ⟨gx, 0, none⟩) vm vc)) (by kernel_rfl) ?_
                      change wpAnyH _ _ _ _ _ _ _ _ (World.drew _)
                      have s0 : (fun W : World => W.cell? ⟨(ad.add (i * 4)).block, (ad.add (i * 4)).off + 3, none⟩ = some (.slice (some ⟨gx, 0, none⟩) vm vc)) wr.drew := a3
                      refine wpAnyH_take (i := 0) (v := .slice (some ad) n c6) rfl (by kernel_rfl) (by kernel_rfl) (by kernel_rfl) (fun _ _ _ h => h) (Or.inl ⟨by first | kernel_rfl | rfl, fun _ hS => by go_simp⟩) s0 ?_
                      try simp only [Act.put, List.getElem_toArray, List.getElem_cons_zero, List.getElem_cons_succ, List.setIfInBounds_toArray, List.set_cons_zero, List.set_cons_succ]
                      refine wpAnyH_take (i := 1) (v := .int .i64 (i : Int)) rfl (by kernel_rfl) (by kernel_rfl) (by kernel_rfl) (fun _ _ _ h => h) (Or.inl ⟨by first | kernel_rfl | rfl, fun _ hS => by go_simp⟩) s0 ?_
                      try simp only [Act.put, List.getElem_toArray, List.getElem_cons_zero, List.getElem_cons_succ, List.setIfInBounds_toArray, List.set_cons_zero, List.set_cons_succ]
                      refine wpAnyH_take (i := 2) (v := .pointer (some (ad.add (i * 4)))) rfl (by kernel_rfl) (by kernel_rfl) (by kernel_rfl) (fun _ _ _ h => h) (Or.inl ⟨by first | kernel_rfl | rfl, fun _ hS => by go_simp⟩) s0 ?_
                      try simp only [Act.put, List.getElem_toArray, List.getElem_cons_zero, List.getElem_cons_succ, List.setIfInBounds_toArray, List.set_cons_zero, List.set_cons_succ]
                      refine wpAnyH_take (i := 3) (v := .pointer (some ⟨(ad.add (i * 4)).block, (ad.add (i * 4)).off + 3, none⟩)) rfl (by kernel_rfl) (by kernel_rfl) (by kernel_rfl) (fun _ _ _ h => h) (Or.inl ⟨by first | kernel_rfl | rfl, fun _ hS => by go_simp⟩) s0 ?_
                      try simp only [Act.put, List.getElem_toArray, List.getElem_cons_zero, List.getElem_cons_succ, List.setIfInBounds_toArray, List.set_cons_zero, List.set_cons_succ]
                      refine wpAnyH_take (i := 4) (v := .slice (some ⟨gx, 0, none⟩) vm vc) rfl (by kernel_rfl) (by kernel_rfl) (by kernel_rfl) (fun _ _ _ h => h) (Or.inl ⟨by first | kernel_rfl | rfl, fun _ hS => by have k1 := hS; go_simp⟩) s0 ?_
                      try simp only [Act.put, List.getElem_toArray, List.getElem_cons_zero, List.getElem_cons_succ, List.setIfInBounds_toArray, List.set_cons_zero, List.set_cons_succ]
                      refine wpAnyH_take (i := 5) (v := .int .i64 (k : Int)) rfl (by kernel_rfl) (by kernel_rfl) (by kernel_rfl) (fun _ _ _ h => h) (Or.inl ⟨by first | kernel_rfl | rfl, fun _ hS => by go_simp⟩) s0 ?_
                      try simp only [Act.put, List.getElem_toArray, List.getElem_cons_zero, List.getElem_cons_succ, List.setIfInBounds_toArray, List.set_cons_zero, List.set_cons_succ]
                      refine wpAnyH_take (i := 6) (v := .slice (some ad) n c6) rfl (by kernel_rfl) (by kernel_rfl) (by kernel_rfl) (fun _ _ _ h => h) (Or.inl ⟨by first | kernel_rfl | rfl, fun _ hS => by go_simp⟩) s0 ?_
                      try simp only [Act.put, List.getElem_toArray, List.getElem_cons_zero, List.getElem_cons_succ, List.setIfInBounds_toArray, List.set_cons_zero, List.set_cons_succ]
                      refine wpAnyH_take (i := 7) (v := .int .i64 (i : Int)) rfl (by kernel_rfl) (by kernel_rfl) (by kernel_rfl) (fun _ _ _ h => h) (Or.inl ⟨by first | kernel_rfl | rfl, fun _ hS => by go_simp⟩) s0 ?_
                      try simp only [Act.put, List.getElem_toArray, List.getElem_cons_zero, List.getElem_cons_succ, List.setIfInBounds_toArray, List.set_cons_zero, List.set_cons_succ]
                      refine wpAnyH_take (i := 8) (v := .pointer (some (ad.add (i * 4)))) rfl (by kernel_rfl) (by kernel_rfl) (by kernel_rfl) (fun _ _ _ h => h) (Or.inl ⟨by first | kernel_rfl | rfl, fun _ hS => by go_simp⟩) s0 ?_
                      try simp only [Act.put, List.getElem_toArray, List.getElem_cons_zero, List.getElem_cons_succ, List.setIfInBounds_toArray, List.set_cons_zero, List.set_cons_succ]
                      refine wpAnyH_take (i := 9) (v := .pointer (some ⟨(ad.add (i * 4)).block, (ad.add (i * 4)).off + 3, none⟩)) rfl (by kernel_rfl) (by kernel_rfl) (by kernel_rfl) (fun _ _ _ h => h) (Or.inl ⟨by first | kernel_rfl | rfl, fun _ hS => by go_simp⟩) s0 ?_
                      try simp only [Act.put, List.getElem_toArray, List.getElem_cons_zero, List.getElem_cons_succ, List.setIfInBounds_toArray, List.set_cons_zero, List.set_cons_succ]
                      refine wpAnyH_take (i := 10) (v := .slice (some ⟨gx, 0, none⟩) vm vc) rfl (by kernel_rfl) (by kernel_rfl) (by kernel_rfl) (fun _ _ _ h => h) (Or.inl ⟨by first | kernel_rfl | rfl, fun _ hS => by have k1 := hS; go_simp⟩) s0 ?_
                      try simp only [Act.put, List.getElem_toArray, List.getElem_cons_zero, List.getElem_cons_succ, List.setIfInBounds_toArray, List.set_cons_zero, List.set_cons_succ]
                      refine wpAnyH_take (i := 11) (v := .int .i64 (k : Int)) rfl (by kernel_rfl) (by kernel_rfl) (by kernel_rfl) (fun _ _ _ h => h) (Or.inl ⟨by first | kernel_rfl | rfl, fun _ hS => by go_simp⟩) s0 ?_
                      try simp only [Act.put, List.getElem_toArray, List.getElem_cons_zero, List.getElem_cons_succ, List.setIfInBounds_toArray, List.set_cons_zero, List.set_cons_succ]
                      refine wpAnyH_take (i := 12) (v := .pointer (some ⟨gx, k, none⟩)) rfl (by kernel_rfl) (by kernel_rfl) (by kernel_rfl) (fun _ _ _ h => h) (Or.inl ⟨by first | kernel_rfl | rfl, fun _ hS => by go_simp⟩) s0 ?_
                      try simp only [Act.put, List.getElem_toArray, List.getElem_cons_zero, List.getElem_cons_succ, List.setIfInBounds_toArray, List.set_cons_zero, List.set_cons_succ]
                      refine wpAnyH_ready (rs := [13]) (by kernel_rfl) (by simp) ?_
                      refine AllReadyH.cons rfl (fun K hK => ?_) AllReadyH.nil
                      go_simp
                      refine hK.out _ _ s0 (fun _ => ?_)
                      clear hK K
                      try simp only [Act.put, List.getElem_toArray, List.getElem_cons_zero, List.getElem_cons_succ, List.setIfInBounds_toArray, List.set_cons_zero, List.set_cons_succ]
                      refine wpAnyH_ready (rs := [14]) (by kernel_rfl) (by simp) ?_
                      refine AllReadyH.cons rfl (fun K hK => ?_) AllReadyH.nil
                      go_simp
                      refine hK.out _ _ s0 (fun _ => ?_)
                      clear hK K
                      try simp only [Act.put, List.getElem_toArray, List.getElem_cons_zero, List.getElem_cons_succ, List.setIfInBounds_toArray, List.set_cons_zero, List.set_cons_succ]
                      refine wpAnyH_take (i := 15) (v := .pointer (some ⟨gx, k, none⟩)) rfl (by kernel_rfl) (by kernel_rfl) (by kernel_rfl) (fun _ _ _ h => h) (Or.inl ⟨by first | kernel_rfl | rfl, fun _ hS => by go_simp⟩) s0 ?_
                      try simp only [Act.put, List.getElem_toArray, List.getElem_cons_zero, List.getElem_cons_succ, List.setIfInBounds_toArray, List.set_cons_zero, List.set_cons_succ]
                      refine wpAnyH_ready (rs := [16]) (by kernel_rfl) (by simp) ?_
                      refine AllReadyH.cons rfl (fun K hK => ?_) AllReadyH.nil
                      go_simp
                      refine hK.out _ _ (by first | exact HSC.out _ | skip) (fun _ => ?_)
                      clear hK K
                      try simp only [Act.put, List.getElem_toArray, List.getElem_cons_zero, List.getElem_cons_succ, List.setIfInBounds_toArray, List.set_cons_zero, List.set_cons_succ]
                      refine wpAnyH_done (by kernel_rfl) (NoPanic.normal ?_) _
                      try simp only [Act.put, List.getElem_toArray, List.getElem_cons_zero, List.getElem_cons_succ, List.setIfInBounds_toArray, List.set_cons_zero, List.set_cons_succ]
                      go_wp2_with fail
                      go_roundw
                      case rel => exact ⟨k + 1, by omega, by go_num, Lib.hid (by first | exact (HSET.out _).drew | exact HSET.out _)⟩
                      case measure => simp [intOf]; omega
                    · obtain rfl : k = vm := by omega
                      clear hltk
                      go_wp2_with fail
                      go_roundw
                      case rel => exact ⟨i + 1, kh, t8, P, lh, Ah, ch, by omega, by go_num, rfl, Lib.hid ⟨HV0.out.mark F6.out HQ.out.1 hmk.out, HP0.out.1, HP0.out.2.1, HP0.out.2.2⟩⟩
                      case measure => simp [intOf]; omega
          · have HONE : Hid (∀ W, Below w.heap.size w W → Calls Try.prog 17 #[.agg #[.slice x.k.a x.k.l.length x.k.c, .int .i64 x.s, .bool x.d, .slice x.v.a x.v.l.length x.v.c]] W (ECop W x)) := Lib.hid (fun W hb => by
              have := refOne_any x W (HAX.out W hb).2 HXL.out.1 HXL.out.2
              rwa [En.val_eq] at this)
            go_upto_region 17 with (first
              | (go_at_call 16; refine HPK.out.mono ?_; rintro e w8 ⟨t8, rfl, p1, p2⟩; have HW8 := Lib.hid (And.intro p1 p2); obtain ⟨⟨b0, b1, b2, b3⟩, -⟩ := HAX.out w8 p1.low; clear p1 p2)
              | (go_at_call 17; refine (HONE.out w8 HW8.out.1.low).mono ?_; rintro e w9 ⟨x', hx', rfl, r1, r2, hb⟩; rw [En.val_eq]; have HW9 : Hid (OwI w w6 w5.heap.size (some ad) li b9 i w9 t8 ((⟨⟨ka, kc, kl⟩, qs, qd, ⟨va, vc, vl⟩⟩ : En).rd :: P) lh Ah ch ∧ EMades w9 w6.heap.size [x'] ∧ (∀ g, EnB [x'] g → ¬ t8.own g) ∧ x'.rd = (⟨⟨ka, kc, kl⟩, qs, qd, ⟨va, vc, vl⟩⟩ : En).rd ∧ w6.heap.size ≤ w9.heap.size) := Lib.hid (by
                  have hz := HW8.out.1.size
                  have h1 := HW8.out.1.below F6.out hb
                  refine ⟨by simpa using h1, fun p hp => by rw [List.mem_singleton.1 hp]; exact ⟨own_mono r1 hz, own_mono r2 hz⟩, fun g hg ho => ?_, hx'.trans HQ.out.2.2.symm, h1.size⟩
                  have k1 := en_row r1 r2 hg
                  have k2 := HW8.out.2 g ho
                  omega); clear hx' r1 r2 hb)
              | (at_builtin; refine wpList_append_oneP _ (by rfl) (.tmp 47) (.tmp 53) (by rfl) w6.heap.size Ah ch lh x' _ kh 1 (by simp [Act.eval]) (by simp [Act.eval]) HL.out.2.1 (HW9.out.1.hrow.alloc _) (lit_entry w9 x'.k.a x'.v.a x'.k.c x'.v.c x'.k.l x'.v.l x'.s x'.d _ _ rfl rfl) (by have := HW9.out.2.2.2.2; simp; omega) (by have := HL.out.2; omega) ?_; intro A8 c8 w10 r8 b8 g8 p8; have HV : Hid (OwI w w6 w5.heap.size (some ad) li b9 i w10 t8 ((⟨⟨ka, kc, kl⟩, qs, qd, ⟨va, vc, vl⟩⟩ : En).rd :: P) (lh ++ [x']) A8 c8 ∧ (ers (lh ++ [x'])).Perm ((⟨⟨ka, kc, kl⟩, qs, qd, ⟨va, vc, vl⟩⟩ : En).rd :: P) ∧ (lh ++ [x']).length = kh + 1 ∧ kh + 1 ≤ i + 1) := Lib.hid ⟨HW9.out.1.append F6.out HW9.out.2.1 HW9.out.2.2.1 r8 (by rw [HL.out.2.1]; exact g8) p8, by rw [ers_append, show ers [x'] = [(⟨⟨ka, kc, kl⟩, qs, qd, ⟨va, vc, vl⟩⟩ : En).rd] from congrArg (fun y => [y]) HW9.out.2.2.2.1]; exact (List.perm_append_comm).trans (HL.out.1.cons _), by rw [List.length_append, HL.out.2.1]; rfl, by have := HL.out.2.2; omega⟩; clear r8 b8 g8 p8))
            have HLY : Hid (∀ W, Below w10.heap.size w10 W → AtE W (ad.add (i * 4)) (⟨⟨ka, kc, kl⟩, qs, qd, ⟨va, vc, vl⟩⟩ : En) ∧ AtE W (ax.add (i * 4)) x ∧ Below w.heap.size w W ∧ EIn W (⟨⟨ka, kc, kl⟩, qs, qd, ⟨va, vc, vl⟩⟩ : En)) := Lib.hid (fun W hb => by
              have h1 := HV.out.1.below F6.out hb
              exact ⟨lies_entry_at (Erow.lies (h1.row F6.out)) HQ.out.1, (HAX.out W h1.low).1, h1.low, HIN.out W (h1.here F6.out HQ.out.1)⟩)
            have HLS : Hid (∀ W, Below w10.heap.size w10 W → (W.cell? (ad.add (i * 4)) = some (.slice ka km kc) ∧ W.cell? ⟨(ad.add (i * 4)).block, (ad.add (i * 4)).off + 1, none⟩ = some (.int .i64 qs) ∧ W.cell? ⟨(ad.add (i * 4)).block, (ad.add (i * 4)).off + 2, none⟩ = some (.bool qd) ∧ W.cell? ⟨(ad.add (i * 4)).block, (ad.add (i * 4)).off + 3, none⟩ = some (.slice va vm vc)) ∧ W.cell? (ax.add (i * 4)) = some (.slice x.k.a x.k.l.length x.k.c) ∧ W.cell? ⟨(ax.add (i * 4)).block, (ax.add (i * 4)).off + 1, none⟩ = some (.int .i64 x.s) ∧ W.cell? ⟨(ax.add (i * 4)).block, (ax.add (i * 4)).off + 2, none⟩ = some (.bool x.d) ∧ W.cell? ⟨(ax.add (i * 4)).block, (ax.add (i * 4)).off + 3, none⟩ = some (.slice x.v.a x.v.l.length x.v.c)) := Lib.hid (fun W hb => by
              obtain ⟨h1, h2, -, -⟩ := HLY.out W hb
              unfold AtE at h1
              simp only [HMZ.out.1, HMZ.out.2] at h1
              exact ⟨h1, h2⟩)
            have RR : Hid (Below w10.heap.size w10 w10) := Lib.hid (Below.refl _ _)
            clear HPK HW8 HW9 HONE a0 a1 a2 a3
            go_region_held3 (fun W => (W.cell? (ad.add (i * 4)) = some (.slice ka km kc) ∧ W.cell? ⟨(ad.add (i * 4)).block, (ad.add (i * 4)).off + 1, none⟩ = some (.int .i64 qs) ∧ W.cell? ⟨(ad.add (i * 4)).block, (ad.add (i * 4)).off + 2, none⟩ = some (.bool qd) ∧ W.cell? ⟨(ad.add (i * 4)).block, (ad.add (i * 4)).off + 3, none⟩ = some (.slice va vm vc)) ∧ W.cell? (ax.add (i * 4)) = some (.slice x.k.a x.k.l.length x.k.c) ∧ W.cell? ⟨(ax.add (i * 4)).block, (ax.add (i * 4)).off + 1, none⟩ = some (.int .i64 x.s) ∧ W.cell? ⟨(ax.add (i * 4)).block, (ax.add (i * 4)).off + 2, none⟩ = some (.bool x.d) ∧ W.cell? ⟨(ax.add (i * 4)).block, (ax.add (i * 4)).off + 3, none⟩ = some (.slice x.v.a x.v.l.length x.v.c)) (first | exact HLS.out _ RR.out | exact HLS.out _ RR.out.drew | go_keep) (first
              | (go_at_call 19; refine (HSAM.out _ (by first | exact (HLY.out _ RR.out).2.2.1 | exact (HLY.out _ RR.out.drew).2.2.1) (by first | exact (HLY.out _ RR.out).2.2.2 | exact (HLY.out _ RR.out.drew).2.2.2)).mono ?_; rintro e w11 ⟨rfl, hz⟩; have RR : Hid (Below w10.heap.size w10 w11) := Lib.hid (below_then (by first | exact RR.out | exact RR.out.drew) hz); clear hz))
            all_goals
              have HV0 : Hid (OwI w w6 w5.heap.size (some ad) li b9 i w11 t8 ((⟨⟨ka, kc, kl⟩, qs, qd, ⟨va, vc, vl⟩⟩ : En).rd :: P) (lh ++ [x']) A8 c8) := Lib.hid (HV.out.1.below F6.out RR.out)
              have HP0 := Lib.hid HV.out.2
              have HROW : Hid (∀ W, Mz (EnB [(⟨⟨ka, kc, kl⟩, qs, qd, ⟨va, vc, vl⟩⟩ : En)]) w11 W → W.cell? (ad.add (i * 4)) = some (.slice ka km kc) ∧ W.cell? ⟨(ad.add (i * 4)).block, (ad.add (i * 4)).off + 1, none⟩ = some (.int .i64 qs) ∧ W.cell? ⟨(ad.add (i * 4)).block, (ad.add (i * 4)).off + 2, none⟩ = some (.bool qd) ∧ W.cell? ⟨(ad.add (i * 4)).block, (ad.add (i * 4)).off + 3, none⟩ = some (.slice va vm vc)) := Lib.hid (fun W hm => by
                have h1 := lies_entry_at (Erow.lies (HV0.out.row_mark F6.out HQ.out.1 hm)) HQ.out.1
                unfold AtE at h1
                simp only [HMZ.out.1, HMZ.out.2] at h1
                exact h1)
              have HSPQ : Hid (SpotZ (EnB [(⟨⟨ka, kc, kl⟩, qs, qd, ⟨va, vc, vl⟩⟩ : En)]) w11 ka km ∧ SpotZ (EnB [(⟨⟨ka, kc, kl⟩, qs, qd, ⟨va, vc, vl⟩⟩ : En)]) w11 va vm) := Lib.hid (by
                have h1 := HV0.out.spots F6.out HQ.out.1
                simp only [HMZ.out.1, HMZ.out.2] at h1
                exact h1)
              have hm0 : Hid (Mz (EnB [(⟨⟨ka, kc, kl⟩, qs, qd, ⟨va, vc, vl⟩⟩ : En)]) w11 w11) := Lib.hid (Mz.refl _ _)
              have km9 : km ≤ 140737488351232 := by have := HQB.out.2.2.1; simp only [HMZ.out.1] at this; exact this
              have vm9 : vm ≤ 140737488351232 := by have := HQB.out.2.2.2; simp only [HMZ.out.2] at this; exact this
              obtain ⟨a0, a1, a2, a3⟩ := HROW.out w11 hm0.out
              clear HLY HLS HV RR HSAM
              go_wp2_with fail
              go_loopw [71] (fun t71 wr => ∃ k : Nat, k ≤ km ∧ t71 = .int .i64 k ∧ Hid (Mz (EnB [(⟨⟨ka, kc, kl⟩, qs, qd, ⟨va, vc, vl⟩⟩ : En)]) w11 wr)) (fun t71 _ => km - (intOf t71).toNat)
              case atStart => exact ⟨0, by omega, rfl, hm0⟩
              case round =>
                obtain ⟨k, hk, rfl, hmk⟩ := hrel
                obtain ⟨a0, a1, a2, a3⟩ := HROW.out wr hmk.out
                by_cases hltk : k < km
                · obtain ⟨gx, v, e, d0, f0, hset⟩ := hmk.out.mark HSPQ.out.1 (k := k) hltk
                  subst e
                  have HSET := Lib.hid hset
                  have i1 : (k : Int) < km := by omega
                  clear hset
                  go_upto_region 22 with fail
                  have HSC : Hid (∀ y, (fun W : World => W.cell? (ad.add (i * 4)) = some (.slice (some ⟨gx, 0, none⟩) km kc)) (wr.setCell ⟨gx, k, none⟩ (.int .u8 y)).drew) := Lib.hid (fun y => (HROW.out _ (HSET.out y)).1)
                  refine wp_region_noPanic ?_
                  refine wp_region_held (S := fun W => W.cell? (ad.add (i * 4)) = some (.slice (some ⟨gx, 0, none⟩) km kc)) (by kernel_rfl) ?_
                  change wpAnyH _ _ _ _ _ _ _ _ (World.drew _)
                  have s0 : (fun W : World => W.cell? (ad.add (i * 4)) = some (.slice (some ⟨gx, 0, none⟩) km kc)) wr.drew := a0
                  refine wpAnyH_take (i := 0) (v := .slice (some ad) n c6) rfl (by kernel_rfl) (by kernel_rfl) (by kernel_rfl) (fun _ _ _ h => h) (Or.inl ⟨by first | kernel_rfl | rfl, fun _ hS => by go_simp⟩) s0 ?_
                  try simp only [Act.put, List.getElem_toArray, List.getElem_cons_zero, List.getElem_cons_succ, List.setIfInBounds_toArray, List.set_cons_zero, List.set_cons_succ]
                  refine wpAnyH_take (i := 1) (v := .int .i64 (i : Int)) rfl (by kernel_rfl) (by kernel_rfl) (by kernel_rfl) (fun _ _ _ h => h) (Or.inl ⟨by first | kernel_rfl | rfl, fun _ hS => by go_simp⟩) s0 ?_
                  try simp only [Act.put, List.getElem_toArray, List.getElem_cons_zero, List.getElem_cons_succ, List.setIfInBounds_toArray, List.set_cons_zero, List.set_cons_succ]
                  refine wpAnyH_take (i := 2) (v := .pointer (some (ad.add (i * 4)))) rfl (by kernel_rfl) (by kernel_rfl) (by kernel_rfl) (fun _ _ _ h => h) (Or.inl ⟨by first | kernel_rfl | rfl, fun _ hS => by go_simp⟩) s0 ?_
                  try simp only [Act.put, List.getElem_toArray, List.getElem_cons_zero, List.getElem_cons_succ, List.setIfInBounds_toArray, List.set_cons_zero, List.set_cons_succ]
                  refine wpAnyH_take (i := 3) (v := .pointer (some (ad.add (i * 4)))) rfl (by kernel_rfl) (by kernel_rfl) (by kernel_rfl) (fun _ _ _ h => h) (Or.inl ⟨by first | kernel_rfl | rfl, fun _ hS => by go_simp⟩) s0 ?_
                  try simp only [Act.put, List.getElem_toArray, List.getElem_cons_zero, List.getElem_cons_succ, List.setIfInBounds_toArray, List.set_cons_zero, List.set_cons_succ]
                  refine wpAnyH_take (i := 4) (v := .slice (some ⟨gx, 0, none⟩) km kc) rfl (by kernel_rfl) (by kernel_rfl) (by kernel_rfl) (fun _ _ _ h => h) (Or.inl ⟨by first | kernel_rfl | rfl, fun _ hS => by have k1 := hS; go_simp⟩) s0 ?_
                  try simp only [Act.put, List.getElem_toArray, List.getElem_cons_zero, List.getElem_cons_succ, List.setIfInBounds_toArray, List.set_cons_zero, List.set_cons_succ]
                  refine wpAnyH_take (i := 5) (v := .int .i64 (k : Int)) rfl (by kernel_rfl) (by kernel_rfl) (by kernel_rfl) (fun _ _ _ h => h) (Or.inl ⟨by first | kernel_rfl | rfl, fun _ hS => by go_simp⟩) s0 ?_
                  try simp only [Act.put, List.getElem_toArray, List.getElem_cons_zero, List.getElem_cons_succ, List.setIfInBounds_toArray, List.set_cons_zero, List.set_cons_succ]
                  refine wpAnyH_take (i := 6) (v := .slice (some ad) n c6) rfl (by kernel_rfl) (by kernel_rfl) (by kernel_rfl) (fun _ _ _ h => h) (Or.inl ⟨by first | kernel_rfl | rfl, fun _ hS => by go_simp⟩) s0 ?_
                  try simp only [Act.put, List.getElem_toArray, List.getElem_cons_zero, List.getElem_cons_succ, List.setIfInBounds_toArray, List.set_cons_zero, List.set_cons_succ]
                  refine wpAnyH_take (i := 7) (v := .int .i64 (i : Int)) rfl (by kernel_rfl) (by kernel_rfl) (by kernel_rfl) (fun _ _ _ h => h) (Or.inl ⟨by first | kernel_rfl | rfl, fun _ hS => by go_simp⟩) s0 ?_
                  try simp only [Act.put, List.getElem_toArray, List.getElem_cons_zero, List.getElem_cons_succ, List.setIfInBounds_toArray, List.set_cons_zero, List.set_cons_succ]
                  refine wpAnyH_take (i := 8) (v := .pointer (some (ad.add (i * 4)))) rfl (by kernel_rfl) (by kernel_rfl) (by kernel_rfl) (fun _ _ _ h => h) (Or.inl ⟨by first | kernel_rfl | rfl, fun _ hS => by go_simp⟩) s0 ?_
                  try simp only [Act.put, List.getElem_toArray, List.getElem_cons_zero, List.getElem_cons_succ, List.setIfInBounds_toArray, List.set_cons_zero, List.set_cons_succ]
                  refine wpAnyH_take (i := 9) (v := .pointer (some (ad.add (i * 4)))) rfl (by kernel_rfl) (by kernel_rfl) (by kernel_rfl) (fun _ _ _ h => h) (Or.inl ⟨by first | kernel_rfl | rfl, fun _ hS => by go_simp⟩) s0 ?_
                  try simp only [Act.put, List.getElem_toArray, List.getElem_cons_zero, List.getElem_cons_succ, List.setIfInBounds_toArray, List.set_cons_zero, List.set_cons_succ]
                  refine wpAnyH_take (i := 10) (v := .slice (some ⟨gx, 0, none⟩) km kc) rfl (by kernel_rfl) (by kernel_rfl) (by kernel_rfl) (fun _ _ _ h => h) (Or.inl ⟨by first | kernel_rfl | rfl, fun _ hS => by have k1 := hS; go_simp⟩) s0 ?_
                  try simp only [Act.put, List.getElem_toArray, List.getElem_cons_zero, List.getElem_cons_succ, List.setIfInBounds_toArray, List.set_cons_zero, List.set_cons_succ]
                  refine wpAnyH_take (i := 11) (v := .int .i64 (k : Int)) rfl (by kernel_rfl) (by kernel_rfl) (by kernel_rfl) (fun _ _ _ h => h) (Or.inl ⟨by first | kernel_rfl | rfl, fun _ hS => by go_simp⟩) s0 ?_
                  try simp only [Act.put, List.getElem_toArray, List.getElem_cons_zero, List.getElem_cons_succ, List.setIfInBounds_toArray, List.set_cons_zero, List.set_cons_succ]
                  refine wpAnyH_take (i := 12) (v := .pointer (some ⟨gx, k, none⟩)) rfl (by kernel_rfl) (by kernel_rfl) (by kernel_rfl) (fun _ _ _ h => h) (Or.inl ⟨by first | kernel_rfl | rfl, fun _ hS => by go_simp⟩) s0 ?_
                  try simp only [Act.put, List.getElem_toArray, List.getElem_cons_zero, List.getElem_cons_succ, List.setIfInBounds_toArray, List.set_cons_zero, List.set_cons_succ]
                  refine wpAnyH_ready (rs := [13]) (by kernel_rfl) (by simp) ?_
                  refine AllReadyH.cons rfl (fun K hK => ?_) AllReadyH.nil
                  go_simp
                  refine hK.out _ _ s0 (fun _ => ?_)
                  clear hK K
                  try simp only [Act.put, List.getElem_toArray, List.getElem_cons_zero, List.getElem_cons_succ, List.setIfInBounds_toArray, List.set_cons_zero, List.set_cons_succ]
                  refine wpAnyH_ready (rs := [14]) (by kernel_rfl) (by simp) ?_
                  refine AllReadyH.cons rfl (fun K hK => ?_) AllReadyH.nil
                  go_simp
                  refine hK.out _ _ s0 (fun _ => ?_)
                  clear hK K
                  try simp only [Act.put, List.getElem_toArray, List.getElem_cons_zero, List.getElem_cons_succ, List.setIfInBounds_toArray, List.set_cons_zero, List.set_cons_succ]
                  refine wpAnyH_take (i := 15) (v := .pointer (some ⟨gx, k, none⟩)) rfl (by kernel_rfl) (by kernel_rfl) (by kernel_rfl) (fun _ _ _ h => h) (Or.inl ⟨by first | kernel_rfl | rfl, fun _ hS => by go_simp⟩) s0 ?_
                  try simp only [Act.put, List.getElem_toArray, List.getElem_cons_zero, List.getElem_cons_succ, List.setIfInBounds_toArray, List.set_cons_zero, List.set_cons_succ]
                  refine wpAnyH_ready (rs := [16]) (by kernel_rfl) (by simp) ?_
                  refine AllReadyH.cons rfl (fun K hK => ?_) AllReadyH.nil
                  go_simp
                  refine hK.out _ _ (by first | exact HSC.out _ | skip) (fun _ => ?_)
                  clear hK K
                  try simp only [Act.put, List.getElem_toArray, List.getElem_cons_zero, List.getElem_cons_succ, List.setIfInBounds_toArray, List.set_cons_zero, List.set_cons_succ]
                  refine wpAnyH_done (by kernel_rfl) (NoPanic.normal ?_) _
                  try simp only [Act.put, List.getElem_toArray, List.getElem_cons_zero, List.getElem_cons_succ, List.setIfInBounds_toArray, List.set_cons_zero, List.set_cons_succ]
                  go_wp2_with fail
                  go_roundw
                  case rel => exact ⟨k + 1, by omega, by go_num, Lib.hid (by first | exact (HSET.out _).drew | exact HSET.out _)⟩
                  case measure => simp [intOf]; omega
                · obtain rfl : k = km := by omega
                  clear hltk
                  clear a0 a1 a2 a3
                  generalize wr = w12a at hmk ⊢
                  obtain ⟨a0, a1, a2, a3⟩ := HROW.out w12a hmk.out
                  go_wp2_with fail
                  go_loopw [97] (fun t97 wr => ∃ k : Nat, k ≤ vm ∧ t97 = .int .i64 k ∧ Hid (Mz (EnB [(⟨⟨ka, kc, kl⟩, qs, qd, ⟨va, vc, vl⟩⟩ : En)]) w11 wr)) (fun t97 _ => vm - (intOf t97).toNat)
                  case atStart => exact ⟨0, by omega, rfl, hmk⟩
                  case round =>
                    obtain ⟨k, hk, rfl, hmk⟩ := hrel
                    obtain ⟨a0, a1, a2, a3⟩ := HROW.out wr hmk.out
                    by_cases hltk : k < vm
                    · obtain ⟨gx, v, e, d0, f0, hset⟩ := hmk.out.mark HSPQ.out.2 (k := k) hltk
                      subst e
                      have HSET := Lib.hid hset
                      have i1 : (k : Int) < vm := by omega
                      clear hset
                      go_upto_region 27 with fail
                      have HSC : Hid (∀ y, (fun W : World => W.cell? ⟨(ad.add (i * 4)).block, (ad.add (i * 4)).off + 3, none⟩ = some (.slice (some ⟨gx, 0, none⟩) vm vc)) (wr.setCell ⟨gx, k, none⟩ (.int .u8 y)).drew) := Lib.hid (fun y => (HROW.out _ (HSET.out y)).2.2.2)
                      refine wp_region_noPanic ?_
                      refine wp_region_held (S := fun W => W.cell? ⟨(ad.add (i * 4)).block, (ad.add (i * 4)).off + 3, none⟩ = some (.slice (some ⟨gx, 0, none⟩) vm vc)) (by kernel_rfl) ?_
                      change wpAnyH _ _ _ _ _ _ _ _ (World.drew _)
                      have s0 : (fun W : World => W.cell? ⟨(ad.add (i * 4)).block, (ad.add (i * 4)).off + 3, none⟩ = some (.slice (some ⟨gx, 0, none⟩) vm vc)) wr.drew := a3
                      refine wpAnyH_take (i := 0) (v := .slice (some ad) n c6) rfl (by kernel_rfl) (by kernel_rfl) (by kernel_rfl) (fun _ _ _ h => h) (Or.inl ⟨by first | kernel_rfl | rfl, fun _ hS => by go_simp⟩) s0 ?_
                      try simp only [Act.put, List.getElem_toArray, List.getElem_cons_zero, List.getElem_cons_succ, List.setIfInBounds_toArray, List.set_cons_zero, List.set_cons_succ]
                      refine wpAnyH_take (i := 1) (v := .int .i64 (i : Int)) rfl (by kernel_rfl) (by kernel_rfl) (by kernel_rfl) (fun _ _ _ h => h) (Or.inl ⟨by first | kernel_rfl | rfl, fun _ hS => by go_simp⟩) s0 ?_
                      try simp only [Act.put, List.getElem_toArray, List.getElem_cons_zero, List.getElem_cons_succ, List.setIfInBounds_toArray, List.set_cons_zero, List.set_cons_succ]
                      refine wpAnyH_take (i := 2) (v := .pointer (some (ad.add (i * 4)))) rfl (by kernel_rfl) (by kernel_rfl) (by kernel_rfl) (fun _ _ _ h => h) (Or.inl ⟨by first | kernel_rfl | rfl, fun _ hS => by go_simp⟩) s0 ?_
                      try simp only [Act.put, List.getElem_toArray, List.getElem_cons_zero, List.getElem_cons_succ, List.setIfInBounds_toArray, List.set_cons_zero, List.set_cons_succ]
                      refine wpAnyH_take (i := 3) (v := .pointer (some ⟨(ad.add (i * 4)).block, (ad.add (i * 4)).off + 3, none⟩)) rfl (by kernel_rfl) (by kernel_rfl) (by kernel_rfl) (fun _ _ _ h => h) (Or.inl ⟨by first | kernel_rfl | rfl, fun _ hS => by go_simp⟩) s0 ?_
                      try simp only [Act.put, List.getElem_toArray, List.getElem_cons_zero, List.getElem_cons_succ, List.setIfInBounds_toArray, List.set_cons_zero, List.set_cons_succ]
                      refine wpAnyH_take (i := 4) (v := .slice (some ⟨gx, 0, none⟩) vm vc) rfl (by kernel_rfl) (by kernel_rfl) (by kernel_rfl) (fun _ _ _ h => h) (Or.inl ⟨by first | kernel_rfl | rfl, fun _ hS => by have k1 := hS; go_simp⟩) s0 ?_
                      try simp only [Act.put, List.getElem_toArray, List.getElem_cons_zero, List.getElem_cons_succ, List.setIfInBounds_toArray, List.set_cons_zero, List.set_cons_succ]
                      refine wpAnyH_take (i := 5) (v := .int .i64 (k : Int)) rfl (by kernel_rfl) (by kernel_rfl) (by kernel_rfl) (fun _ _ _ h => h) (Or.inl ⟨by first | kernel_rfl | rfl, fun _ hS => by go_simp⟩) s0 ?_
                      try simp only [Act.put, List.getElem_toArray, List.getElem_cons_zero, List.getElem_cons_succ, List.setIfInBounds_toArray, List.set_cons_zero, List.set_cons_succ]
                      refine wpAnyH_take (i := 6) (v := .slice (some ad) n c6) rfl (by kernel_rfl) (by kernel_rfl) (by kernel_rfl) (fun _ _ _ h => h) (Or.inl ⟨by first | kernel_rfl | rfl, fun _ hS => by go_simp⟩) s0 ?_
                      try simp only [Act.put, List.getElem_toArray, List.getElem_cons_zero, List.getElem_cons_succ, List.setIfInBounds_toArray, List.set_cons_zero, List.set_cons_succ]
                      refine wpAnyH_take (i := 7) (v := .int .i64 (i : Int)) rfl (by kernel_rfl) (by kernel_rfl) (by kernel_rfl) (fun _ _ _ h => h) (Or.inl ⟨by first | kernel_rfl | rfl, fun _ hS => by go_simp⟩) s0 ?_
                      try simp only [Act.put, List.getElem_toArray, List.getElem_cons_zero, List.getElem_cons_succ, List.setIfInBounds_toArray, List.set_cons_zero, List.set_cons_succ]
                      refine wpAnyH_take (i := 8) (v := .pointer (some (ad.add (i * 4)))) rfl (by kernel_rfl) (by kernel_rfl) (by kernel_rfl) (fun _ _ _ h => h) (Or.inl ⟨by first | kernel_rfl | rfl, fun _ hS => by go_simp⟩) s0 ?_
                      try simp only [Act.put, List.getElem_toArray, List.getElem_cons_zero, List.getElem_cons_succ, List.setIfInBounds_toArray, List.set_cons_zero, List.set_cons_succ]
                      refine wpAnyH_take (i := 9) (v := .pointer (some ⟨(ad.add (i * 4)).block, (ad.add (i * 4)).off + 3, none⟩)) rfl (by kernel_rfl) (by kernel_rfl) (by kernel_rfl) (fun _ _ _ h => h) (Or.inl ⟨by first | kernel_rfl | rfl, fun _ hS => by go_simp⟩) s0 ?_
                      try simp only [Act.put, List.getElem_toArray, List.getElem_cons_zero, List.getElem_cons_succ, List.setIfInBounds_toArray, List.set_cons_zero, List.set_cons_succ]
                      refine wpAnyH_take (i := 10) (v := .slice (some ⟨gx, 0, none⟩) vm vc) rfl (by kernel_rfl) (by kernel_rfl) (by kernel_rfl) (fun _ _ _ h => h) (Or.inl ⟨by first | kernel_rfl | rfl, fun _ hS => by have k1 := hS; go_simp⟩) s0 ?_
                      try simp only [Act.put, List.getElem_toArray, List.getElem_cons_zero, List.getElem_cons_succ, List.setIfInBounds_toArray, List.set_cons_zero, List.set_cons_succ]
                      refine wpAnyH_take (i := 11) (v := .int .i64 (k : Int)) rfl (by kernel_rfl) (by kernel_rfl) (by kernel_rfl) (fun _ _ _ h => h) (Or.inl ⟨by first | kernel_rfl | rfl, fun _ hS => by go_simp⟩) s0 ?_
                      try simp only [Act.put, List.getElem_toArray, List.getElem_cons_zero, List.getElem_cons_succ, List.setIfInBounds_toArray, List.set_cons_zero, List.set_cons_succ]
                      refine wpAnyH_take (i := 12) (v := .pointer (some ⟨gx, k, none⟩)) rfl (by kernel_rfl) (by kernel_rfl) (by kernel_rfl) (fun _ _ _ h => h) (Or.inl ⟨by first | kernel_rfl | rfl, fun _ hS => by go_simp⟩) s0 ?_
                      try simp only [Act.put, List.getElem_toArray, List.getElem_cons_zero, List.getElem_cons_succ, List.setIfInBounds_toArray, List.set_cons_zero, List.set_cons_succ]
                      refine wpAnyH_ready (rs := [13]) (by kernel_rfl) (by simp) ?_
                      refine AllReadyH.cons rfl (fun K hK => ?_) AllReadyH.nil
                      go_simp
                      refine hK.out _ _ s0 (fun _ => ?_)
                      clear hK K
                      try simp only [Act.put, List.getElem_toArray, List.getElem_cons_zero, List.getElem_cons_succ, List.setIfInBounds_toArray, List.set_cons_zero, List.set_cons_succ]
                      refine wpAnyH_ready (rs := [14]) (by kernel_rfl) (by simp) ?_
                      refine AllReadyH.cons rfl (fun K hK => ?_) AllReadyH.nil
                      go_simp
                      refine hK.out _ _ s0 (fun _ => ?_)
                      clear hK K
                      try simp only [Act.put, List.getElem_toArray, List.getElem_cons_zero, List.getElem_cons_succ, List.setIfInBounds_toArray, List.set_cons_zero, List.set_cons_succ]
                      refine wpAnyH_take (i := 15) (v := .pointer (some ⟨gx, k, none⟩)) rfl (by kernel_rfl) (by kernel_rfl) (by kernel_rfl) (fun _ _ _ h => h) (Or.inl ⟨by first | kernel_rfl | rfl, fun _ hS => by go_simp⟩) s0 ?_
                      try simp only [Act.put, List.getElem_toArray, List.getElem_cons_zero, List.getElem_cons_succ, List.setIfInBounds_toArray, List.set_cons_zero, List.set_cons_succ]
                      refine wpAnyH_ready (rs := [16]) (by kernel_rfl) (by simp) ?_
                      refine AllReadyH.cons rfl (fun K hK => ?_) AllReadyH.nil
                      go_simp
                      refine hK.out _ _ (by first | exact HSC.out _ | skip) (fun _ => ?_)
                      clear hK K
                      try simp only [Act.put, List.getElem_toArray, List.getElem_cons_zero, List.getElem_cons_succ, List.setIfInBounds_toArray, List.set_cons_zero, List.set_cons_succ]
                      refine wpAnyH_done (by kernel_rfl) (NoPanic.normal ?_) _
                      try simp only [Act.put, List.getElem_toArray, List.getElem_cons_zero, List.getElem_cons_succ, List.setIfInBounds_toArray, List.set_cons_zero, List.set_cons_succ]
                      go_wp2_with fail
                      go_roundw
                      case rel => exact ⟨k + 1, by omega, by go_num, Lib.hid (by first | exact (HSET.out _).drew | exact HSET.out _)⟩
                      case measure => simp [intOf]; omega
                    · obtain rfl : k = vm := by omega
                      clear hltk
                      go_wp2_with fail
                      go_roundw
                      case rel => exact ⟨i + 1, (kh + 1), t8, ((⟨⟨ka, kc, kl⟩, qs, qd, ⟨va, vc, vl⟩⟩ : En).rd :: P), (lh ++ [x']), A8, c8, by omega, by go_num, rfl, Lib.hid ⟨HV0.out.mark F6.out HQ.out.1 hmk.out, HP0.out.1, HP0.out.2.1, HP0.out.2.2⟩⟩
                      case measure => simp [intOf]; omega
        · obtain rfl : n = i := by omega
          have HO := Lib.hid hr.out.1
          have HPL := Lib.hid hr.out.2
          have hfew := HI.out.2.2.1
          have HLT : Hid (t'.has.length = kh ∧ t'.ns.length = kh + 1) := Lib.hid (by
            have h1 := HO.out.perm.length_eq
            have h2 := HPL.out.1.length_eq
            rw [ers_len] at h2
            exact ⟨by rw [← h1, ← h2, HPL.out.2.1], by rw [HO.out.cnt, ← h2, HPL.out.2.1]⟩)
          have hkn : kh ≤ n := HPL.out.2.2
          have HALL : Hid (∀ W, MTab W t' → Calls Try.prog 21 #[.pointer (some ⟨b9, 0, none⟩), .slice none 0 0, .slice none 0 0] W (AllM t'.has W)) := Lib.hid (fun W hW => by
            have := mall_any hW (by rw [HLT.out.2]; omega) (by rw [HLT.out.1]; omega)
            rwa [HO.out.tb] at this)
          clear hr hlt
          generalize wr = w12 at HO ⊢
          go_upto_region 31 with (go_at_call 21; refine (HALL.out w12 HO.out.tab).mono ?_; rintro e w13 ⟨l1, A1, c1, h1, rfl, h2, h3, hb⟩; have E13 : Hid (ers l1 = t'.has ∧ Erow w13 w12.heap.size A1 c1 l1 ∧ EMades w13 w12.heap.size l1 ∧ Below w12.heap.size w12 w13) := Lib.hid ⟨h1, h2, h3, hb⟩; clear h1 h2 h3 hb)
          have hn1 : l1.length = kh := by
            have := congrArg List.length E13.out.1
            rw [ers_len, HLT.out.1] at this
            exact this
          have HN1 := Lib.hid hn1
          rw [hn1]
          clear hn1
          have hmi0 : Hid (Mz (EnB l1) w13 w13) := Lib.hid (Mz.refl _ _)
          have HRW : Hid (∀ W, Mz (EnB l1) w13 W → Lies W A1 (evals l1)) := Lib.hid (fun W hm => Erow.lies (erow_same E13.out.2.1 (fun g hg => hm.kp.block g (fun hz => by
            obtain ⟨v, e1, rfl⟩ := hg
            obtain ⟨p, hp, hz⟩ := hz
            obtain ⟨cs, k1⟩ := own_type E13.out.2.1 v e1
            rcases hz with ⟨u, e2, e3⟩ | ⟨u, e2, e3⟩
            · obtain ⟨cs', k2⟩ := own_type (E13.out.2.2.1 p hp).1 u e2
              rw [e3, k2] at k1
              cases k1
            · obtain ⟨cs', k2⟩ := own_type (E13.out.2.2.1 p hp).2 u e2
              rw [e3, k2] at k1
              cases k1))))
          have HLB : Hid (∀ q ∈ l1, q.k.l.length ≤ 140737488351232 ∧ q.v.l.length ≤ 140737488351232) := Lib.hid (fun q hq => by
            have h1 : q.rd ∈ ers l1 := List.mem_map_of_mem hq
            rw [E13.out.1] at h1
            obtain ⟨⟨-, g1⟩, -, g2, -⟩ := (OrdL.pw.1 HO.out.tab.skip.sorted).1 q.rd h1
            simp only [En.rd] at g1 g2
            exact ⟨by omega, by omega⟩)
          go_wp2_with fail
          go_loopw [122] (fun t122 wv => ∃ i : Nat, i ≤ kh ∧ t122 = .int .i64 i ∧ Hid (Mz (EnB l1) w13 wv)) (fun t122 _ => kh - (intOf t122).toNat)
          case atStart => exact ⟨0, by omega, rfl, hmi0⟩
          case round =>
            obtain ⟨j, hj, rfl, hm0⟩ := hrel
            by_cases hltj : j < kh
            · have hq := List.getElem?_eq_getElem (l := l1) (i := j) (by have := HN1.out; omega)
              generalize l1[j]'(by have := HN1.out; omega) = q at hq
              obtain ⟨ad, rfl, -⟩ := lies_entry (HRW.out wr hm0.out) hq
              have HQ := Lib.hid hq
              have hb9 := HLB.out q (List.mem_of_getElem? hq)
              obtain ⟨⟨ka, kc, kl⟩, qs, qd, ⟨va, vc, vl⟩⟩ := q
              obtain ⟨km, hkm⟩ : ∃ m, kl.length = m := ⟨_, rfl⟩
              obtain ⟨vm, hvm⟩ : ∃ m, vl.length = m := ⟨_, rfl⟩
              simp only [hkm, hvm] at hb9
              have HMZ := Lib.hid (And.intro hkm hvm)
              have HROW : Hid (∀ W, Mz (EnB l1) w13 W → W.cell? (ad.add (j * 4)) = some (.slice ka km kc) ∧ W.cell? ⟨(ad.add (j * 4)).block, (ad.add (j * 4)).off + 1, none⟩ = some (.int .i64 qs) ∧ W.cell? ⟨(ad.add (j * 4)).block, (ad.add (j * 4)).off + 2, none⟩ = some (.bool qd) ∧ W.cell? ⟨(ad.add (j * 4)).block, (ad.add (j * 4)).off + 3, none⟩ = some (.slice va vm vc)) := Lib.hid (fun W hm => by
                have h1 := lies_entry_at (HRW.out W hm) HQ.out
                unfold AtE at h1
                simp only [HMZ.out.1, HMZ.out.2] at h1
                exact h1)
              have HSPQ : Hid (SpotZ (EnB l1) w13 ka km ∧ SpotZ (EnB l1) w13 va vm) := Lib.hid (by
                have hmem := List.mem_of_getElem? HQ.out
                have h1 := E13.out.2.2.1 _ hmem
                have k1 := h1.1.spotZ (Z := EnB l1) (fun g hg => ⟨_, hmem, .inl hg⟩)
                have k2 := h1.2.spotZ (Z := EnB l1) (fun g hg => ⟨_, hmem, .inr hg⟩)
                simp only [HMZ.out.1, HMZ.out.2] at k1 k2
                exact ⟨k1, k2⟩)
              obtain ⟨km9, vm9⟩ := hb9
              obtain ⟨a0, a1, a2, a3⟩ := HROW.out wr hm0.out
              have j0 : (j : Int) < kh := by omega
              clear hq hkm hvm
              generalize wr = w14 at hm0 a0 a1 a2 a3 ⊢
              go_wp2_with fail
              go_loopw [131] (fun t131 wr => ∃ k : Nat, k ≤ km ∧ t131 = .int .i64 k ∧ Hid (Mz (EnB l1) w13 wr)) (fun t131 _ => km - (intOf t131).toNat)
              case atStart => exact ⟨0, by omega, rfl, hm0⟩
              case round =>
                obtain ⟨k, hk, rfl, hmk⟩ := hrel
                obtain ⟨a0, a1, a2, a3⟩ := HROW.out wr hmk.out
                by_cases hltk : k < km
                · obtain ⟨gx, v, e, d0, f0, hset⟩ := hmk.out.mark HSPQ.out.1 (k := k) hltk
                  subst e
                  have HSET := Lib.hid hset
                  have i1 : (k : Int) < km := by omega
                  clear hset
                  go_upto_region 37 with fail
                  have HSC : Hid (∀ y, (fun W : World => W.cell? (ad.add (j * 4)) = some (.slice (some ⟨gx, 0, none⟩) km kc)) (wr.setCell ⟨gx, k, none⟩ (.int .u8 y)).drew) := Lib.hid (fun y => (HROW.out _ (HSET.out y)).1)
                  refine wp_region_noPanic ?_
                  refine wp_region_held (S := fun W => W.cell? (ad.add (j * 4)) = some (.slice (some ⟨gx, 0, none⟩) km kc)) (by kernel_rfl) ?_
                  change wpAnyH _ _ _ _ _ _ _ _ (World.drew _)
                  have s0 : (fun W : World => W.cell? (ad.add (j * 4)) = some (.slice (some ⟨gx, 0, none⟩) km kc)) wr.drew := a0
                  refine wpAnyH_take (i := 0) (v := .slice (some ad) kh c1) rfl (by kernel_rfl) (by kernel_rfl) (by kernel_rfl) (fun _ _ _ h => h) (Or.inl ⟨by first | kernel_rfl | rfl, fun _ hS => by go_simp⟩) s0 ?_
                  try simp only [Act.put, List.getElem_toArray, List.getElem_cons_zero, List.getElem_cons_succ, List.setIfInBounds_toArray, List.set_cons_zero, List.set_cons_succ]
                  refine wpAnyH_take (i := 1) (v := .int .i64 (j : Int)) rfl (by kernel_rfl) (by kernel_rfl) (by kernel_rfl) (fun _ _ _ h => h) (Or.inl ⟨by first | kernel_rfl | rfl, fun _ hS => by go_simp⟩) s0 ?_
                  try simp only [Act.put, List.getElem_toArray, List.getElem_cons_zero, List.getElem_cons_succ, List.setIfInBounds_toArray, List.set_cons_zero, List.set_cons_succ]
                  refine wpAnyH_take (i := 2) (v := .pointer (some (ad.add (j * 4)))) rfl (by kernel_rfl) (by kernel_rfl) (by kernel_rfl) (fun _ _ _ h => h) (Or.inl ⟨by first | kernel_rfl | rfl, fun _ hS => by go_simp⟩) s0 ?_
                  try simp only [Act.put, List.getElem_toArray, List.getElem_cons_zero, List.getElem_cons_succ, List.setIfInBounds_toArray, List.set_cons_zero, List.set_cons_succ]
                  refine wpAnyH_take (i := 3) (v := .pointer (some (ad.add (j * 4)))) rfl (by kernel_rfl) (by kernel_rfl) (by kernel_rfl) (fun _ _ _ h => h) (Or.inl ⟨by first | kernel_rfl | rfl, fun _ hS => by go_simp⟩) s0 ?_
                  try simp only [Act.put, List.getElem_toArray, List.getElem_cons_zero, List.getElem_cons_succ, List.setIfInBounds_toArray, List.set_cons_zero, List.set_cons_succ]
                  refine wpAnyH_take (i := 4) (v := .slice (some ⟨gx, 0, none⟩) km kc) rfl (by kernel_rfl) (by kernel_rfl) (by kernel_rfl) (fun _ _ _ h => h) (Or.inl ⟨by first | kernel_rfl | rfl, fun _ hS => by have k1 := hS; go_simp⟩) s0 ?_
                  try simp only [Act.put, List.getElem_toArray, List.getElem_cons_zero, List.getElem_cons_succ, List.setIfInBounds_toArray, List.set_cons_zero, List.set_cons_succ]
                  refine wpAnyH_take (i := 5) (v := .int .i64 (k : Int)) rfl (by kernel_rfl) (by kernel_rfl) (by kernel_rfl) (fun _ _ _ h => h) (Or.inl ⟨by first | kernel_rfl | rfl, fun _ hS => by go_simp⟩) s0 ?_
                  try simp only [Act.put, List.getElem_toArray, List.getElem_cons_zero, List.getElem_cons_succ, List.setIfInBounds_toArray, List.set_cons_zero, List.set_cons_succ]
                  refine wpAnyH_take (i := 6) (v := .slice (some ad) kh c1) rfl (by kernel_rfl) (by kernel_rfl) (by kernel_rfl) (fun _ _ _ h => h) (Or.inl ⟨by first | kernel_rfl | rfl, fun _ hS => by go_simp⟩) s0 ?_
                  try simp only [Act.put, List.getElem_toArray, List.getElem_cons_zero, List.getElem_cons_succ, List.setIfInBounds_toArray, List.set_cons_zero, List.set_cons_succ]
                  refine wpAnyH_take (i := 7) (v := .int .i64 (j : Int)) rfl (by kernel_rfl) (by kernel_rfl) (by kernel_rfl) (fun _ _ _ h => h) (Or.inl ⟨by first | kernel_rfl | rfl, fun _ hS => by go_simp⟩) s0 ?_
                  try simp only [Act.put, List.getElem_toArray, List.getElem_cons_zero, List.getElem_cons_succ, List.setIfInBounds_toArray, List.set_cons_zero, List.set_cons_succ]
                  refine wpAnyH_take (i := 8) (v := .pointer (some (ad.add (j * 4)))) rfl (by kernel_rfl) (by kernel_rfl) (by kernel_rfl) (fun _ _ _ h => h) (Or.inl ⟨by first | kernel_rfl | rfl, fun _ hS => by go_simp⟩) s0 ?_
                  try simp only [Act.put, List.getElem_toArray, List.getElem_cons_zero, List.getElem_cons_succ, List.setIfInBounds_toArray, List.set_cons_zero, List.set_cons_succ]
                  refine wpAnyH_take (i := 9) (v := .pointer (some (ad.add (j * 4)))) rfl (by kernel_rfl) (by kernel_rfl) (by kernel_rfl) (fun _ _ _ h => h) (Or.inl ⟨by first | kernel_rfl | rfl, fun _ hS => by go_simp⟩) s0 ?_
                  try simp only [Act.put, List.getElem_toArray, List.getElem_cons_zero, List.getElem_cons_succ, List.setIfInBounds_toArray, List.set_cons_zero, List.set_cons_succ]
                  refine wpAnyH_take (i := 10) (v := .slice (some ⟨gx, 0, none⟩) km kc) rfl (by kernel_rfl) (by kernel_rfl) (by kernel_rfl) (fun _ _ _ h => h) (Or.inl ⟨by first | kernel_rfl | rfl, fun _ hS => by have k1 := hS; go_simp⟩) s0 ?_
                  try simp only [Act.put, List.getElem_toArray, List.getElem_cons_zero, List.getElem_cons_succ, List.setIfInBounds_toArray, List.set_cons_zero, List.set_cons_succ]
                  refine wpAnyH_take (i := 11) (v := .int .i64 (k : Int)) rfl (by kernel_rfl) (by kernel_rfl) (by kernel_rfl) (fun _ _ _ h => h) (Or.inl ⟨by first | kernel_rfl | rfl, fun _ hS => by go_simp⟩) s0 ?_
                  try simp only [Act.put, List.getElem_toArray, List.getElem_cons_zero, List.getElem_cons_succ, List.setIfInBounds_toArray, List.set_cons_zero, List.set_cons_succ]
                  refine wpAnyH_take (i := 12) (v := .pointer (some ⟨gx, k, none⟩)) rfl (by kernel_rfl) (by kernel_rfl) (by kernel_rfl) (fun _ _ _ h => h) (Or.inl ⟨by first | kernel_rfl | rfl, fun _ hS => by go_simp⟩) s0 ?_
                  try simp only [Act.put, List.getElem_toArray, List.getElem_cons_zero, List.getElem_cons_succ, List.setIfInBounds_toArray, List.set_cons_zero, List.set_cons_succ]
                  refine wpAnyH_ready (rs := [13]) (by kernel_rfl) (by simp) ?_
                  refine AllReadyH.cons rfl (fun K hK => ?_) AllReadyH.nil
                  go_simp
                  refine hK.out _ _ s0 (fun _ => ?_)
                  clear hK K
                  try simp only [Act.put, List.getElem_toArray, List.getElem_cons_zero, List.getElem_cons_succ, List.setIfInBounds_toArray, List.set_cons_zero, List.set_cons_succ]
                  refine wpAnyH_ready (rs := [14]) (by kernel_rfl) (by simp) ?_
                  refine AllReadyH.cons rfl (fun K hK => ?_) AllReadyH.nil
                  go_simp
                  refine hK.out _ _ s0 (fun _ => ?_)
                  clear hK K
                  try simp only [Act.put, List.getElem_toArray, List.getElem_cons_zero, List.getElem_cons_succ, List.setIfInBounds_toArray, List.set_cons_zero, List.set_cons_succ]
                  refine wpAnyH_take (i := 15) (v := .pointer (some ⟨gx, k, none⟩)) rfl (by kernel_rfl) (by kernel_rfl) (by kernel_rfl) (fun _ _ _ h => h) (Or.inl ⟨by first | kernel_rfl | rfl, fun _ hS => by go_simp⟩) s0 ?_
                  try simp only [Act.put, List.getElem_toArray, List.getElem_cons_zero, List.getElem_cons_succ, List.setIfInBounds_toArray, List.set_cons_zero, List.set_cons_succ]
                  refine wpAnyH_ready (rs := [16]) (by kernel_rfl) (by simp) ?_
                  refine AllReadyH.cons rfl (fun K hK => ?_) AllReadyH.nil
                  go_simp
                  refine hK.out _ _ (by first | exact HSC.out _ | skip) (fun _ => ?_)
                  clear hK K
                  try simp only [Act.put, List.getElem_toArray, List.getElem_cons_zero, List.getElem_cons_succ, List.setIfInBounds_toArray, List.set_cons_zero, List.set_cons_succ]
                  refine wpAnyH_done (by kernel_rfl) (NoPanic.normal ?_) _
                  try simp only [Act.put, List.getElem_toArray, List.getElem_cons_zero, List.getElem_cons_succ, List.setIfInBounds_toArray, List.set_cons_zero, List.set_cons_succ]
                  go_wp2_with fail
                  go_roundw
                  case rel => exact ⟨k + 1, by omega, by go_num, Lib.hid (by first | exact (HSET.out _).drew | exact HSET.out _)⟩
                  case measure => simp [intOf]; omega
                · obtain rfl : k = km := by omega
                  clear hltk
                  clear a0 a1 a2 a3
                  generalize wr = w15a at hmk ⊢
                  obtain ⟨a0, a1, a2, a3⟩ := HROW.out w15a hmk.out
                  go_wp2_with fail
                  go_loopw [157] (fun t157 wr => ∃ k : Nat, k ≤ vm ∧ t157 = .int .i64 k ∧ Hid (Mz (EnB l1) w13 wr)) (fun t157 _ => vm - (intOf t157).toNat)
                  case atStart => exact ⟨0, by omega, rfl, hmk⟩
                  case round =>
                    obtain ⟨k, hk, rfl, hmk⟩ := hrel
                    obtain ⟨a0, a1, a2, a3⟩ := HROW.out wr hmk.out
                    by_cases hltk : k < vm
                    · obtain ⟨gx, v, e, d0, f0, hset⟩ := hmk.out.mark HSPQ.out.2 (k := k) hltk
                      subst e
                      have HSET := Lib.hid hset
                      have i1 : (k : Int) < vm := by omega
                      clear hset
                      go_upto_region 42 with fail
                      have HSC : Hid (∀ y, (fun W : World => W.cell? ⟨(ad.add (j * 4)).block, (ad.add (j * 4)).off + 3, none⟩ = some (.slice (some ⟨gx, 0, none⟩) vm vc)) (wr.setCell ⟨gx, k, none⟩ (.int .u8 y)).drew) := Lib.hid (fun y => (HROW.out _ (HSET.out y)).2.2.2)
                      refine wp_region_noPanic ?_
                      refine wp_region_held (S := fun W => W.cell? ⟨(ad.add (j * 4)).block, (ad.add (j * 4)).off + 3, none⟩ = some (.slice (some ⟨gx, 0, none⟩) vm vc)) (by kernel_rfl) ?_
                      change wpAnyH _ _ _ _ _ _ _ _ (World.drew _)
                      have s0 : (fun W : World => W.cell? ⟨(ad.add (j * 4)).block, (ad.add (j * 4)).off + 3, none⟩ = some (.slice (some ⟨gx, 0, none⟩) vm vc)) wr.drew := a3
                      refine wpAnyH_take (i := 0) (v := .slice (some ad) kh c1) rfl (by kernel_rfl) (by kernel_rfl) (by kernel_rfl) (fun _ _ _ h => h) (Or.inl ⟨by first | kernel_rfl | rfl, fun _ hS => by go_simp⟩) s0 ?_
                      try simp only [Act.put, List.getElem_toArray, List.getElem_cons_zero, List.getElem_cons_succ, List.setIfInBounds_toArray, List.set_cons_zero, List.set_cons_succ]
                      refine wpAnyH_take (i := 1) (v := .int .i64 (j : Int)) rfl (by kernel_rfl) (by kernel_rfl) (by kernel_rfl) (fun _ _ _ h => h) (Or.inl ⟨by first | kernel_rfl | rfl, fun _ hS => by go_simp⟩) s0 ?_
                      try simp only [Act.put, List.getElem_toArray, List.getElem_cons_zero, List.getElem_cons_succ, List.setIfInBounds_toArray, List.set_cons_zero, List.set_cons_succ]
                      refine wpAnyH_take (i := 2) (v := .pointer (some (ad.add (j * 4)))) rfl (by kernel_rfl) (by kernel_rfl) (by kernel_rfl) (fun _ _ _ h => h) (Or.inl ⟨by first | kernel_rfl | rfl, fun _ hS => by go_simp⟩) s0 ?_
                      try simp only [Act.put, List.getElem_toArray, List.getElem_cons_zero, List.getElem_cons_succ, List.setIfInBounds_toArray, List.set_cons_zero, List.set_cons_succ]
                      refine wpAnyH_take (i := 3) (v := .pointer (some ⟨(ad.add (j * 4)).block, (ad.add (j * 4)).off + 3, none⟩)) rfl (by kernel_rfl) (by kernel_rfl) (by kernel_rfl) (fun _ _ _ h => h) (Or.inl ⟨by first | kernel_rfl | rfl, fun _ hS => by go_simp⟩) s0 ?_
                      try simp only [Act.put, List.getElem_toArray, List.getElem_cons_zero, List.getElem_cons_succ, List.setIfInBounds_toArray, List.set_cons_zero, List.set_cons_succ]
                      refine wpAnyH_take (i := 4) (v := .slice (some ⟨gx, 0, none⟩) vm vc) rfl (by kernel_rfl) (by kernel_rfl) (by kernel_rfl) (fun _ _ _ h => h) (Or.inl ⟨by first | kernel_rfl | rfl, fun _ hS => by have k1 := hS; go_simp⟩) s0 ?_
                      try simp only [Act.put, List.getElem_toArray, List.getElem_cons_zero, List.getElem_cons_succ, List.setIfInBounds_toArray, List.set_cons_zero, List.set_cons_succ]
                      refine wpAnyH_take (i := 5) (v := .int .i64 (k : Int)) rfl (by kernel_rfl) (by kernel_rfl) (by kernel_rfl) (fun _ _ _ h => h) (Or.inl ⟨by first | kernel_rfl | rfl, fun _ hS => by go_simp⟩) s0 ?_
                      try simp only [Act.put, List.getElem_toArray, List.getElem_cons_zero, List.getElem_cons_succ, List.setIfInBounds_toArray, List.set_cons_zero, List.set_cons_succ]
                      refine wpAnyH_take (i := 6) (v := .slice (some ad) kh c1) rfl (by kernel_rfl) (by kernel_rfl) (by kernel_rfl) (fun _ _ _ h => h) (Or.inl ⟨by first | kernel_rfl | rfl, fun _ hS => by go_simp⟩) s0 ?_
                      try simp only [Act.put, List.getElem_toArray, List.getElem_cons_zero, List.getElem_cons_succ, List.setIfInBounds_toArray, List.set_cons_zero, List.set_cons_succ]
                      refine wpAnyH_take (i := 7) (v := .int .i64 (j : Int)) rfl (by kernel_rfl) (by kernel_rfl) (by kernel_rfl) (fun _ _ _ h => h) (Or.inl ⟨by first | kernel_rfl | rfl, fun _ hS => by go_simp⟩) s0 ?_
                      try simp only [Act.put, List.getElem_toArray, List.getElem_cons_zero, List.getElem_cons_succ, List.setIfInBounds_toArray, List.set_cons_zero, List.set_cons_succ]
                      refine wpAnyH_take (i := 8) (v := .pointer (some (ad.add (j * 4)))) rfl (by kernel_rfl) (by kernel_rfl) (by kernel_rfl) (fun _ _ _ h => h) (Or.inl ⟨by first | kernel_rfl | rfl, fun _ hS => by go_simp⟩) s0 ?_
                      try simp only [Act.put, List.getElem_toArray, List.getElem_cons_zero, List.getElem_cons_succ, List.setIfInBounds_toArray, List.set_cons_zero, List.set_cons_succ]
                      refine wpAnyH_take (i := 9) (v := .pointer (some ⟨(ad.add (j * 4)).block, (ad.add (j * 4)).off + 3, none⟩)) rfl (by kernel_rfl) (by kernel_rfl) (by kernel_rfl) (fun _ _ _ h => h) (Or.inl ⟨by first | kernel_rfl | rfl, fun _ hS => by go_simp⟩) s0 ?_
                      try simp only [Act.put, List.getElem_toArray, List.getElem_cons_zero, List.getElem_cons_succ, List.setIfInBounds_toArray, List.set_cons_zero, List.set_cons_succ]
                      refine wpAnyH_take (i := 10) (v := .slice (some ⟨gx, 0, none⟩) vm vc) rfl (by kernel_rfl) (by kernel_rfl) (by kernel_rfl) (fun _ _ _ h => h) (Or.inl ⟨by first | kernel_rfl | rfl, fun _ hS => by have k1 := hS; go_simp⟩) s0 ?_
                      try simp only [Act.put, List.getElem_toArray, List.getElem_cons_zero, List.getElem_cons_succ, List.setIfInBounds_toArray, List.set_cons_zero, List.set_cons_succ]
                      refine wpAnyH_take (i := 11) (v := .int .i64 (k : Int)) rfl (by kernel_rfl) (by kernel_rfl) (by kernel_rfl) (fun _ _ _ h => h) (Or.inl ⟨by first | kernel_rfl | rfl, fun _ hS => by go_simp⟩) s0 ?_
                      try simp only [Act.put, List.getElem_toArray, List.getElem_cons_zero, List.getElem_cons_succ, List.setIfInBounds_toArray, List.set_cons_zero, List.set_cons_succ]
                      refine wpAnyH_take (i := 12) (v := .pointer (some ⟨gx, k, none⟩)) rfl (by kernel_rfl) (by kernel_rfl) (by kernel_rfl) (fun _ _ _ h => h) (Or.inl ⟨by first | kernel_rfl | rfl, fun _ hS => by go_simp⟩) s0 ?_
                      try simp only [Act.put, List.getElem_toArray, List.getElem_cons_zero, List.getElem_cons_succ, List.setIfInBounds_toArray, List.set_cons_zero, List.set_cons_succ]
                      refine wpAnyH_ready (rs := [13]) (by kernel_rfl) (by simp) ?_
                      refine AllReadyH.cons rfl (fun K hK => ?_) AllReadyH.nil
                      go_simp
                      refine hK.out _ _ s0 (fun _ => ?_)
                      clear hK K
                      try simp only [Act.put, List.getElem_toArray, List.getElem_cons_zero, List.getElem_cons_succ, List.setIfInBounds_toArray, List.set_cons_zero, List.set_cons_succ]
                      refine wpAnyH_ready (rs := [14]) (by kernel_rfl) (by simp) ?_
                      refine AllReadyH.cons rfl (fun K hK => ?_) AllReadyH.nil
                      go_simp
                      refine hK.out _ _ s0 (fun _ => ?_)
                      clear hK K
                      try simp only [Act.put, List.getElem_toArray, List.getElem_cons_zero, List.getElem_cons_succ, List.setIfInBounds_toArray, List.set_cons_zero, List.set_cons_succ]
                      refine wpAnyH_take (i := 15) (v := .pointer (some ⟨gx, k, none⟩)) rfl (by kernel_rfl) (by kernel_rfl) (by kernel_rfl) (fun _ _ _ h => h) (Or.inl ⟨by first | kernel_rfl | rfl, fun _ hS => by go_simp⟩) s0 ?_
                      try simp only [Act.put, List.getElem_toArray, List.getElem_cons_zero, List.getElem_cons_succ, List.setIfInBounds_toArray, List.set_cons_zero, List.set_cons_succ]
                      refine wpAnyH_ready (rs := [16]) (by kernel_rfl) (by simp) ?_
                      refine AllReadyH.cons rfl (fun K hK => ?_) AllReadyH.nil
                      go_simp
                      refine hK.out _ _ (by first | exact HSC.out _ | skip) (fun _ => ?_)
                      clear hK K
                      try simp only [Act.put, List.getElem_toArray, List.getElem_cons_zero, List.getElem_cons_succ, List.setIfInBounds_toArray, List.set_cons_zero, List.set_cons_succ]
                      refine wpAnyH_done (by kernel_rfl) (NoPanic.normal ?_) _
                      try simp only [Act.put, List.getElem_toArray, List.getElem_cons_zero, List.getElem_cons_succ, List.setIfInBounds_toArray, List.set_cons_zero, List.set_cons_succ]
                      go_wp2_with fail
                      go_roundw
                      case rel => exact ⟨k + 1, by omega, by go_num, Lib.hid (by first | exact (HSET.out _).drew | exact HSET.out _)⟩
                      case measure => simp [intOf]; omega
                    · obtain rfl : k = vm := by omega
                      clear hltk
                      go_wp2_with fail
                      go_roundw
                      case rel => exact ⟨j + 1, by omega, by go_num, hmk⟩
                      case measure => simp [intOf]; omega
            · obtain rfl : kh = j := by omega
              have HM := Lib.hid hm0.out
              clear hm0 hltj hj
              generalize wr = w16 at HM ⊢
              have HEB : Hid (∀ p ∈ t'.has, ErB p) := Lib.hid (fun p hp => by
                obtain ⟨cc, hc, rfl⟩ := List.mem_map.1 hp
                have hl := ((HO.out.tab.skip.all cc).1 hc).2
                rw [eo_of (List.getElem?_eq_getElem hl)]
                exact (HO.out.tab.made _ (List.getElem_mem hl)).2.2)
              have hz := E13.out.2.2.2.size
              have hZ : ∀ g, EnB l1 g → w12.heap.size ≤ g := fun g hg => (enB_in E13.out.2.2.1 hg).1
              have H16 : Hid (MTab w16 t' ∧ Erow w16 w6.heap.size Ah ch lh ∧ EMades w16 w6.heap.size lh ∧ Below w.heap.size w w16) := Lib.hid (by
                have b13 := E13.out.2.2.2
                have t13 := HO.out.tab.kept b13
                have r13 := HO.out.hrow.kept b13 (Nat.le_refl _)
                have m13 := HO.out.hmade.kept b13 (Nat.le_refl _)
                refine ⟨t13.same (fun g hg => HM.out.kp.block g (fun e => by have := hZ g e; have := HO.out.tab.in_ g hg; omega)), erow_same r13 (fun g hg => HM.out.kp.block g (fun e => by have := hZ g e; have := (slB_in HO.out.hrow hg).2; omega)), mades_same m13 (fun g hg => HM.out.kp.block g (fun e => by have := hZ g e; have := (enB_in HO.out.hmade hg).2; omega)), ?_⟩
                exact (below_then HO.out.low b13).trans ⟨HM.out.kp.os, HM.out.kp.tape, HM.out.kp.output, HM.out.kp.size, fun g hg => HM.out.kp.block g (fun e => by have := hZ g e; have := HO.out.low.size; omega)⟩)
              clear hZ hz
              have HB9 : Hid (∀ p ∈ ers lh, ErB p ∧ p.1.length ≤ 281474976710656) := Lib.hid (fun p hp => by
                have h1 := (HPL.out.1.trans HO.out.perm).subset hp
                obtain ⟨⟨-, g1⟩, -⟩ := (OrdL.pw.1 HO.out.tab.skip.sorted).1 p h1
                exact ⟨HEB.out p h1, by omega⟩)
              go_wp2_with (first
                | (go_at_call 21; refine (HALL.out w16 H16.out.1).mono ?_; rintro e w17 ⟨l2, A2', c2', h1, rfl, h2, h3, hb⟩; have E17 : Hid (ers l2 = t'.has ∧ Erow w17 w16.heap.size A2' c2' l2 ∧ EMades w17 w16.heap.size l2 ∧ Below w16.heap.size w16 w17) := Lib.hid ⟨h1, h2, h3, hb⟩; clear h1 h2 h3 hb)
                | (go_at_call 25; refine (refSorted_any kh Ah lh kh ch w17 HPL.out.2.1 (Nat.le_refl _) (by have := (own_cap H16.out.2.1).1; rw [HPL.out.2.1] at this; exact this) (own_cap H16.out.2.1).2 (Erow.lies (H16.out.2.1.kept E17.out.2.2.2 (Nat.le_refl _))) ((H16.out.2.2.1.kept E17.out.2.2.2 (Nat.le_refl _)).ins (fun p hp => (HB9.out p hp).1)) (by omega) (fun q hq => (HB9.out q.rd (List.mem_map_of_mem hq)).2)).mono ?_; rintro e w18 ⟨M, A18, m18, c18, rfl, hM, -, -, hl, hp, hpw, hb⟩; have E18 : Hid (M.length = m18 ∧ Lies w18 A18 (evals M) ∧ M.Perm lh ∧ List.Pairwise leE (ers M) ∧ Below w17.heap.size w17 w18) := Lib.hid ⟨hM, hl, hp, hpw, hb⟩; clear hM hl hp hpw hb)
                | (go_at_call 24; refine (sameEns (l := l2) (m := M) rfl E18.out.1 (Erow.lies (E17.out.2.1.kept E18.out.2.2.2.2 (Nat.le_refl _))) E18.out.2.1 ((E17.out.2.2.1.kept E18.out.2.2.2.2 (Nat.le_refl _)).ins (fun p hp => HEB.out p (E17.out.1 ▸ hp))) (fun q hq => (((H16.out.2.2.1.kept E17.out.2.2.2 (Nat.le_refl _)).kept E18.out.2.2.2.2 (Nat.le_refl _)).ins (fun p hp => (HB9.out p hp).1)) q (E18.out.2.2.1.subset hq)) (by rw [E17.out.1]; exact sorted_one (OrdL.pw.1 HO.out.tab.skip.sorted).2 E18.out.2.2.2.1 ((HO.out.perm.symm.trans HPL.out.1.symm).trans (E18.out.2.2.1.symm.map _))) (by have := congrArg List.length E17.out.1; rw [ers_len, HLT.out.1] at this; omega)).mono ?_; rintro e w19 ⟨rfl, hb⟩; have B19 : Hid (Below w.heap.size w w19) := Lib.hid (below_then (below_then (below_then H16.out.2.2.2 E17.out.2.2.2) E18.out.2.2.2.2) hb); clear hb))
              go_ret
              exact ⟨rfl, B19.out⟩
end Go.Proofs.Ytcffpkflijpdjaa
