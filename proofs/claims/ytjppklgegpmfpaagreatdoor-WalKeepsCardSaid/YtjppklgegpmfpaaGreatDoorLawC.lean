/-
  The law WalKeeps, walked.
-/
import Derived.Test.YtjppklgegpmfpaaGreatDoorLawB
import Derived.Test.YtjppklgegpmfpaaGreatDoorLast
namespace Go.Proofs.YtjppklgegpmfpaaGreatDoor
open Go.RowKit
open Go.Maps

set_option maxRecDepth 100000 in
set_option maxHeartbeats 16000000 in
theorem lawKeeps (A : Option Addr) (n c : Nat) (T : List Sl) (ops room : Int) (K : Option Addr) (keep : List Int) (kn kc : Nat) (every : Int) (w : World) (hT : Tab w.heap.size w) (h : SIn w A T n c) (hp : PlIn w ops room K keep kn kc) (he : (Lit.int .i64 every).wf = true) :
    Calls Tryz.prog 3 #[.slice A n c, .agg #[.int .i64 ops, .int .i64 room, .slice K kn kc], .int .i64 every] w fun e w' => e = .returned (.bool true) ∧ Below w.heap.size w w' := by
  have H := Lib.hid h
  have HP := Lib.hid hp
  have HT := Lib.hid hT
  obtain ⟨w0, hw0⟩ : ∃ w0, w.alloc (.cells #[.int .i64 ops, .int .i64 room, .slice K kn kc] 25) = w0 := ⟨_, rfl⟩
  have B0 : Hid (Below w.heap.size w w0) := Lib.hid (hw0 ▸ below_new _ _)
  have HZ : Hid (w0.cell? ⟨w.heap.size, 0, none⟩ = some (.int .i64 ops) ∧ w0.cell? ⟨w.heap.size, 1, none⟩ = some (.int .i64 room) ∧ w0.cell? ⟨w.heap.size, 2, none⟩ = some (.slice K kn kc)) := Lib.hid (by rw [← hw0]; exact ⟨lit_cell w _ _ 0, lit_cell w _ _ 1, lit_cell w _ _ 2⟩)
  have HS0 : Hid (w0.heap.size = w.heap.size + 1) := Lib.hid (by rw [← hw0]; simp)
  have HK : Hid (∀ W, Below w0.heap.size w0 W → W.cell? ⟨w.heap.size, 0, none⟩ = some (.int .i64 ops) ∧ W.cell? ⟨w.heap.size, 1, none⟩ = some (.int .i64 room) ∧ W.cell? ⟨w.heap.size, 2, none⟩ = some (.slice K kn kc)) := Lib.hid (fun W hb => by
    have e := hb.block w.heap.size (by have := HS0.out; omega)
    exact ⟨(World.cell?_of_block e).trans HZ.out.1, (World.cell?_of_block e).trans HZ.out.2.1, (World.cell?_of_block e).trans HZ.out.2.2⟩)
  have HW := Lib.hid (wakes_any w0 (HT.out.on B0.out |>.mono B0.out.size))
  clear h hp hT
  by_cases hbig : n ≤ 100000
  · go_enter Tryz.func3, Tryz.ntmps3
    go_upto_region 5 with (go_at_call 7; refine HW.out.mono ?_; rintro e w1 ⟨rfl, hb⟩; have B1 := Lib.hid hb; clear hb)
    have D1 : Hid (Below w.heap.size w w1) := Lib.hid (B0.out.trans (B1.out.mono B0.out.size))
    obtain ⟨z0, z1, z2⟩ := HK.out _ B1.out
    go_upto_region 6 with (first
      | (go_at_call 9; refine (plan_log HP.out.len HP.out.ints (by have := HP.out.few; omega) w1 D1.out).mono ?_; rintro e w2 ⟨A2, c2, rfl, r2, b2⟩; have E2 := Lib.hid (And.intro r2 b2); clear r2 b2)
      | (go_at_call 8; refine (new_any ops room A2 keep kn c2 w2 HP.out.len E2.out.1.lies (by have := HP.out.few; omega) HP.out.ki HP.out.ops HP.out.room).mono ?_; rintro e w3 ⟨g, d, rfl, h31, h32, h33⟩; have D3 : Hid (Below w.heap.size w w3) := Lib.hid (D1.out.trans ((E2.out.2.trans (h33.mono E2.out.2.size)).mono D1.out.size)); have E3 : Hid (PSt w3 w.heap.size g d ∧ d.vm = ⟨[], room, ops, keep, false⟩) := Lib.hid ⟨h31.mono (Nat.le_trans D1.out.size E2.out.2.size), h32⟩; clear h31 h32 h33))
    clear z0 z1 z2 E2
    obtain ⟨size, hsz, hs1, hs2⟩ := way_size every 200 (by decide)
    simp only [show ((200 : Nat) : Int) = 200 from rfl] at hsz
    have HSZ : Hid (1 ≤ size ∧ size ≤ 1048576) := Lib.hid ⟨hs1, by omega⟩
    clear hs1 hs2
    go_wp2_with (go_at_call 10; refine (openNew w.heap.size g d ⟨[], room, ops, keep, false⟩ ⟨#[108, 111, 103]⟩ size w3 E3.out.1 E3.out.2 rfl rfl pre_log HSZ.out (HT.out.on D3.out)).mono ?_; rintro e w4 ⟨lb, A4, c4, d4, rfl, hl, hd, hlb⟩; have D4 : Hid (Below w.heap.size w w4) := Lib.hid (D3.out.trans (hd.below D3.out.size (fun k hk => (E3.out.1.owned k hk).1))); have E4 := Lib.hid hl; clear hl hd hlb)
    go_loopw [10, 11, 12, 13] (fun t10 t11 t12 t13 wr => ∃ (i se su : Nat) (r : Int) (d : Pk) (s : Ls) (G : List Gr), t10 = .int .i64 r ∧ t11 = .int .i64 su ∧ t12 = .int .i64 se ∧ t13 = .int .i64 i ∧ Kq w wr g lb size n ⟨#[108, 111, 103]⟩ T i se su r d s G) (fun _ _ _ t13 _ => n - (intOf t13).toNat)
    case atStart =>
      exact ⟨0, 0, 0, 0, d4, _, [], rfl, rfl, rfl, rfl, E4.out, D4.out, (J.start rfl).k, by simp [total], Nat.zero_le _, Nat.zero_le _, Nat.zero_le _, fun x hx => (List.not_mem_nil hx).elim, .inl ⟨rfl, rfl, Nat.le_refl _, J.start rfl, rfl⟩⟩
    case round =>
      obtain ⟨i, se, su, r, d5, s5, G5, rfl, rfl, rfl, rfl, hkq⟩ := hrel
      have Q := Lib.hid hkq
      clear hkq
      by_cases hgo : i < n ∧ r = 0
      · obtain ⟨hlt, rfl⟩ := hgo
        obtain ⟨rfl, hnum, hj, hd⟩ := Q.out.go
        have HJ := Lib.hid (And.intro hj hd)
        clear hj hd hnum
        have hs := List.getElem?_eq_getElem (l := T) (i := se) (by have := H.out.len; omega)
        generalize T[se]'(by have := H.out.len; omega) = x at hs
        have hbx := byts_of hs
        obtain ⟨ad, rfl, a0⟩ := lies_at (H.out.kept Q.out.bel).lies hs
        have a1 : ∀ o, (wr.alloc o).cell? (ad.add se) = some (.slice x.a x.l.length x.c) := fun o => by
          obtain ⟨ad', e, h⟩ := lies_at (H.out.kept (Q.out.bel.alloc Q.out.bel.size o)).lies hs
          injection e with e
          subst e
          exact h
        have HI := Lib.hid ((H.out.kept Q.out.bel).all x (List.mem_of_getElem? hs))
        obtain ⟨xa, xc, xl⟩ := x
        obtain ⟨q, hq⟩ : ∃ q, xl.length = q := ⟨_, rfl⟩
        simp only [hq] at a0 a1
        have HX : Hid (In wr xa xl q xc ∧ (byts T)[se]? = some xl) := Lib.hid ⟨hq ▸ HI.out, hbx⟩
        clear hs hbx HI
        by_cases hq5 : q ≤ 5000
        · have A5 := Lib.hid (row_made wr wr.heap.size [] #[] rfl (by simp) (Nat.le_refl _))
          have E5 := Lib.hid (HX.out.1.bys.alloc (.cells #[] 5))
          go_upto_region 14 with (first
            | (at_builtin; refine wpList_append_row_if _ (by with_unfolding_all rfl) (.tmp 56) (.tmp 60) rfl wr.heap.size _ 0 [] xl xa 0 q xc rfl rfl rfl HX.out.1.len A5.out E5.out (by simp) (by have := HX.out.1.len; simp only [List.length_nil]; omega) ?_; intro A6 c6 w6 r6 b6; have B6 : Hid (Below wr.heap.size wr w6) := Lib.hid ((below_new wr _).trans b6); have R6 : Hid (Row w6 wr.heap.size A6 c6 xl) := Lib.hid r6; clear r6 b6)
            | (go_at_call 11; refine (appendJ w.heap.size g lb 200000 d5 s5 G5 ⟨#[108, 111, 103]⟩ size A6 xl q c6 w6 (Q.out.ls.kept B6.out) pre_log HSZ.out.1 HJ.out.1 HJ.out.2 (HT.out.on (Q.out.bel.trans (B6.out.mono Q.out.bel.size))) (R6.out.in_n HX.out.1.byt HX.out.1.len) hq5 (Q.out.one H.out.len.symm hbig).2.2 (by decide) (Q.out.one H.out.len.symm hbig).2.1 (by rw [(Q.out.one H.out.len.symm hbig).1]; omega)).mono ?_; rintro e w7 ⟨r7, s7, G7, d7, rfl, hw7, -, hl7, hd7⟩; have E7 := Lib.hid (Q.out.appended hlt HX.out.2 hw7 hl7 ((Q.out.bel.trans (B6.out.mono Q.out.bel.size)).trans (hd7.below (by have := Q.out.bel.size; have := B6.out.size; omega) (fun k hk => ((Q.out.ls.kept B6.out).owned k hk).1)))); clear hw7 hl7 hd7))
          clear a0 a1
          rcases E7.out with ⟨rfl, hk7⟩ | ⟨hr7, hk7⟩
          · have Q7 := Lib.hid hk7
            clear hk7 E7
            by_cases h3 : ((se : Int) % 3 == 2) = true
            · obtain ⟨-, hnum, hj, hd⟩ := Q7.out.go
              have HJ7 := Lib.hid (And.intro hj hd)
              clear hj hd hnum
              go_upto_region 18 with (go_at_call 12; refine (syncJ w.heap.size g lb 200000 d7 s7 G7 ⟨#[108, 111, 103]⟩ size w7 Q7.out.ls pre_log HJ7.out.1 HJ7.out.2 (HT.out.on Q7.out.bel) (by have := (Q7.out.one H.out.len.symm hbig).2.2; omega)).mono ?_; rintro e w8 ⟨r8, s8, G8, d8, rfl, hw8, hp8, hl8, hd8⟩; have E8 := Lib.hid (Q7.out.synced H.out.len.symm hw8 hp8 hl8 (Q7.out.bel.trans (hd8.below Q7.out.bel.size (fun k hk => (Q7.out.ls.owned k hk).1)))); clear hw8 hp8 hl8 hd8)
              rcases E8.out with ⟨rfl, hk8⟩ | ⟨hr8, hk8⟩
              · go_wp2_with fail
                go_roundw
                case rel => exact ⟨se + 1, se + 1, se + 1, 0, d8, s8, G8, rfl, by go_num, by go_num, by go_num, hk8⟩
                case measure => simp [intOf]; omega
              · have hz : (r8 == 0) = false := by simpa using hr8
                go_wp2_with fail
                go_roundw
                case rel => exact ⟨se + 1, se + 1, su, r8, d8, s8, G8, rfl, rfl, by go_num, by go_num, hk8⟩
                case measure => simp [intOf]; omega
            · have h3' : ((se : Int) % 3 == 2) = false := by simpa using h3
              go_wp2_with fail
              go_roundw
              case rel => exact ⟨se + 1, se + 1, su, 0, d7, s7, G7, rfl, rfl, by go_num, by go_num, Q7.out⟩
              case measure => simp [intOf]; omega
          · have hz : (r7 == 0) = false := by simpa using hr7
            go_wp2_with fail
            go_roundw
            case rel => exact ⟨se + 1, se, su, r7, d7, s7, G7, rfl, rfl, rfl, by go_num, hk7⟩
            case measure => simp [intOf]; omega
        · go_wp2_with fail
          go_ret
          exact ⟨rfl, Q.out.bel⟩
      · have hx : i < n → (r == 0) = false := fun hlt => by
          have : ¬ r = 0 := fun h0 => hgo ⟨hlt, h0⟩
          simpa using this
        clear hgo
        rcases Nat.lt_or_ge i n with hlt | hge
        all_goals
          try have hr0 := hx hlt
          clear hx
          by_cases h21 : r = 21
          · subst h21
            go_wp2_with fail
            go_ret
            exact ⟨rfl, Q.out.bel⟩
          have hr21 : (r == 21) = false := by simpa using h21
          clear h21
          obtain ⟨m', hm'⟩ : ∃ m', s5.m.revive (-1) (-1) [] = m' := ⟨_, rfl⟩
          obtain ⟨f1, f2, f3, L, j, f4, f5, f6, f7, f8, f9⟩ := Q.out.found pre_log H.out.len.symm hbig m' hm'
          have F := Lib.hid (And.intro f1 (And.intro f2 (And.intro f3 (And.intro f4 (And.intro f7 (And.intro f8 hm'))))))
          clear f1 f2 f3 f4 f7 f8 hm'
          go_upto_region 24 with (first
            | (go_at_call 14; refine (calm_any _).mono ?_; rintro e w5 ⟨rfl, hb⟩; have B5 := Lib.hid hb; clear hb)
            | (go_at_call 13; refine (revive_vm w.heap.size g d5 s5.m m' (-1) (-1) none [] 0 0 w5 (Q.out.ls.ps.kept B5.out) Q.out.ls.vm F.out.1 F.out.2.1 rfl (.inl rfl) (fun _ h => by cases h) (by decide) (fun _ h => by cases h) (by decide) (by decide) F.out.2.2.2.2.2.2).mono ?_; rintro e w6 ⟨rfl, d6, p1, p2, p3⟩; have D6 : Hid (Below w.heap.size w w6) := Lib.hid ((Q.out.bel.trans (B5.out.mono Q.out.bel.size)).trans (p3.below (by have := Q.out.bel.size; have := B5.out.size; omega) (fun k hk => ((Q.out.ls.ps.kept B5.out).owned k hk).1))); have E6 : Hid (PSt w6 w.heap.size g d6 ∧ d6.vm = m') := Lib.hid ⟨p1, p2⟩; clear p1 p2 p3))
          have HO : Hid (Calls Tryz.prog 10 #[.pointer (some ⟨g, 0, none⟩), .string ⟨#[108, 111, 103]⟩, .int .i64 9] w6 (OpenTo w6 w.heap.size g d6 m' ⟨#[108, 111, 103]⟩ 9 L)) := Lib.hid (open_any w.heap.size g d6 m' ⟨#[108, 111, 103]⟩ 9 _ L w6 E6.out.1 E6.out.2 pre_log (by decide) (HT.out.on D6.out) F.out.2.2.2.1 F.out.2.2.2.2.2.1)
          have HJN : Hid (j ≤ (byts T).length) := Lib.hid (by rw [byts_len, H.out.len]; exact f9)
          go_upto_region 25 with (go_at_call 10; refine HO.out.mono ?_; rintro e w7 ⟨lb2, T7, A7, c7, k, d7, rfl, hk, ht, hs, ho, hl, hd, hlb⟩; obtain rfl : k = j := (by have := congrArg List.length ht; rw [byts_len, hk, F.out.2.2.2.2.1, List.length_take, Nat.min_eq_left HJN.out] at this; exact this); have E7 := Lib.hid (And.intro hk (And.intro ht (And.intro hs (And.intro hl ho)))); have D7 : Hid (Below w.heap.size w w7) := Lib.hid (D6.out.trans (hd.below D6.out.size (fun k hk => (E6.out.1.owned k hk).1))); clear hk ht hs ho hl hd hlb)
          have HF := Lib.hid (F.out.2.2.2.1.fix (m' := { m' with fs := segFs ⟨#[108, 111, 103]⟩ (L.map fixS) }) rfl F.out.2.2.1.down (fun _ => ⟨F.out.2.2.1.down, F.out.2.2.1.left, F.out.2.2.1.room⟩))
          have HO2 : Hid (Calls Tryz.prog 10 #[.pointer (some ⟨g, 0, none⟩), .string ⟨#[108, 111, 103]⟩, .int .i64 9] w7 (OpenTo w7 w.heap.size g d7 { m' with fs := segFs ⟨#[108, 111, 103]⟩ (L.map fixS) } ⟨#[108, 111, 103]⟩ 9 (L.map fixS))) := Lib.hid (open_any w.heap.size g d7 _ ⟨#[108, 111, 103]⟩ 9 _ (L.map fixS) w7 E7.out.2.2.2.1.ps E7.out.2.2.2.1.vm pre_log (by decide) (HT.out.on D7.out) HF.out.1 (by rw [next_fix]; exact F.out.2.2.2.2.2.1))
          go_upto_region 26 with (go_at_call 10; refine HO2.out.mono ?_; rintro e w8 ⟨lb3, T8, A8, c8, k8, d8, rfl, hk, ht, hs, -, hl, hd, hlb⟩; rw [HF.out.2] at ht; obtain rfl : k8 = k := (by have := congrArg List.length ht; rw [byts_len, hk, F.out.2.2.2.2.1, List.length_take, Nat.min_eq_left HJN.out] at this; exact this); have E8 := Lib.hid (And.intro hk (And.intro ht hs)); have X8 := Lib.hid (E7.out.2.2.1.of (fun j hj => hd.block j (E7.out.2.2.1.in_ j hj).2 (fun ho => E7.out.2.2.2.2 j hj (.inl ho)))); have D8 : Hid (Below w.heap.size w w8) := Lib.hid (D7.out.trans (hd.below D7.out.size (fun k hk => (E7.out.2.2.2.1.ps.owned k hk).1))); clear hk ht hs hl hd hlb)
          have hsl := slcs_high A n k8 c (Nat.le_trans f9 H.out.cap)
          have LX : Hid (∀ W, Below w8.heap.size w8 W → Lies W A7 (svals T7) ∧ AllBys W T7 ∧ Lies W A8 (svals T8) ∧ AllBys W T8 ∧ Lies W A (svals (T.take k8)) ∧ AllBys W (T.take k8)) := Lib.hid (fun W hb => by
            have h1 := X8.out.kept hb
            have h2 := E8.out.2.2.kept hb
            have h3 := H.out.kept (D8.out.trans (hb.mono D8.out.size))
            exact ⟨h1.row.lies, rows_bys h1.rows, h2.row.lies, rows_bys h2.rows, take_lies h3.lies k8, fun s hs => (h3.all s (List.mem_of_mem_take hs)).bys⟩)
          have HE : Hid (byts T7 = byts (T.take k8) ∧ byts T7 = byts T8 ∧ (T.take k8).length = k8) := Lib.hid ⟨by rw [E7.out.2.1, F.out.2.2.2.2.1]; simp [byts, List.map_take], by rw [E7.out.2.1, E8.out.2.1], by have := HJN.out; rw [byts_len] at this; rw [List.length_take]; omega⟩
          have hk9 : k8 ≤ 9223372036854775807 := by have := H.out.top; have := H.out.cap; omega
          have SA : Hid (Calls Tryz.prog 15 #[.slice A7 k8 c7, .slice A k8 c] w8 fun e w' => e = .returned (.bool true) ∧ Below w8.heap.size w8 w') := Lib.hid ((ssame_any A7 A T7 (T.take k8) k8 k8 c7 c w8 E7.out.1 HE.out.2.2 hk9 (LX.out w8 (Below.refl _ _)).1 (LX.out w8 (Below.refl _ _)).2.2.2.2.1 (LX.out w8 (Below.refl _ _)).2.1 (LX.out w8 (Below.refl _ _)).2.2.2.2.2 HE.out.1).mono (fun e w' hq => ⟨hq.1, by obtain ⟨-, kk, rfl⟩ := hq; exact below_drewN (Below.refl _ _) _⟩))
          have SB : Hid (∀ W, Below w8.heap.size w8 W → Calls Tryz.prog 15 #[.slice A7 k8 c7, .slice A8 k8 c8] W fun e w' => e = .returned (.bool true) ∧ Below w8.heap.size w8 w') := Lib.hid (fun W hb => (ssame_any A7 A8 T7 T8 k8 k8 c7 c8 W E7.out.1 E8.out.1 hk9 (LX.out W hb).1 (LX.out W hb).2.2.1 (LX.out W hb).2.1 (LX.out W hb).2.2.2.1 HE.out.2.1).mono (fun e w' hq => ⟨hq.1, by obtain ⟨-, kk, rfl⟩ := hq; exact below_drewN hb _⟩))
          go_wp2_with (first
            | (go_at_call 15; refine SA.out.mono ?_; rintro e w9 ⟨rfl, hb⟩; have B9 := Lib.hid hb; clear hb SA)
            | (go_at_call 15; refine (SB.out w9 B9.out).mono ?_; rintro e w10 ⟨rfl, hb⟩; have B10 := Lib.hid hb; clear hb SB))
          go_ret
          exact ⟨rfl, D8.out.trans (B10.out.mono D8.out.size)⟩
  · go_enter Tryz.func3, Tryz.ntmps3
    go_wp2_with (go_at_call 7; refine HW.out.mono ?_; rintro e w1 ⟨rfl, hb⟩; have B1 := Lib.hid hb; clear hb)
    go_ret
    exact ⟨rfl, B0.out.trans (B1.out.mono B0.out.size)⟩

end Go.Proofs.YtjppklgegpmfpaaGreatDoor
