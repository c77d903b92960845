/-
  Walks over twenty digits: Even.
-/
import Derived.Test.YtefkabkncmflpaaDoorWkO
namespace Go.Proofs.YtefkabkncmflpaaDoor
open Go.RowKit

/-- What stands in the blocks while a quotient is rounded. -/
structure EvenRows (w wr : World) (a b q r : Nat → Int) (g5 g6 : Nat) : Prop where
  ra : wr.rowIs w.heap.size 58 20 (dig a)
  rb : wr.rowIs (w.heap.size + 1) 58 20 (dig b)
  r4 : wr.rowIs (w.heap.size + 1 + 1) 58 20 (dig fun _ => 0)
  rq : wr.rowIs g5 58 20 (dig q)
  rr : wr.rowIs g6 58 20 (dig r)
  h5 : w.heap.size + 2 < g5
  h6 : g5 < g6
  bl : Below w.heap.size w wr
theorem EvenRows.keep {w wr w' : World} {a b q r : Nat → Int} {g5 g6 : Nat} (h : EvenRows w wr a b q r g5 g6) (hb : Below wr.heap.size wr w') : EvenRows w w' a b q r g5 g6 :=
  ⟨row_kept h.ra hb, row_kept h.rb hb, row_kept h.r4 hb, row_kept h.rq hb, row_kept h.rr hb, h.h5, h.h6, h.bl.trans (hb.mono h.bl.size)⟩
theorem EvenRows.setQ {w wr : World} {a b q r : Nat → Int} {g5 g6 : Nat} (h : EvenRows w wr a b q r g5 g6) (f : Nat → Int) : EvenRows w (wr.setRow g5 (nat20 f)) a b f r g5 g6 :=
  have h5 := h.h5
  have h6 := h.h6
  ⟨row_setRow_other _ h.ra (by omega), row_setRow_other _ h.rb (by omega), row_setRow_other _ h.r4 (by omega), row_setRow f (row_of _ _ _ h.rq), row_setRow_other _ h.rr (by omega), h5, h6, below_setRow h.bl (by omega) _⟩
theorem EvenRows.drewN {w wr : World} {a b q r : Nat → Int} {g5 g6 : Nat} (h : EvenRows w wr a b q r g5 g6) (n : Nat) : EvenRows w (wr.drewN n) a b q r g5 g6 := h.keep (drewN_below _ _ _)

theorem row_new2 (w : World) : ((w.alloc (.cells (nat20 fun _ => 0) 58)).alloc (.cells (nat20 fun _ => 0) 58)).rowIs (w.heap.size + 1) 58 20 (dig fun _ => 0) := by
  have := row_new (w.alloc (.cells (nat20 fun _ => 0) 58)) (fun _ => 0)
  simpa using this

theorem even_start {w w0 wv : World} {a b q r : Nat → Int} (h1 : w0.rowIs w.heap.size 58 20 (dig a)) (h2 : w0.rowIs (w.heap.size + 1) 58 20 (dig b)) (h3 : w0.rowIs (w.heap.size + 1 + 1) 58 20 (dig fun _ => 0)) (h4 : Below w.heap.size w w0) (hb : Below w0.heap.size w0 wv) :
    EvenRows w ((((wv.alloc (.cells (nat20 fun _ => 0) 58)).alloc (.cells (nat20 fun _ => 0) 58)).setRow wv.heap.size (nat20 q)).setRow (wv.heap.size + 1) (nat20 r)) a b q r wv.heap.size (wv.heap.size + 1) := by
  have hs := h3.lt
  have hz := hb.size
  have k : ∀ {g : Nat} {f : Nat → Int}, w0.rowIs g 58 20 (dig f) → ((((wv.alloc (.cells (nat20 fun _ => 0) 58)).alloc (.cells (nat20 fun _ => 0) 58)).setRow wv.heap.size (nat20 q)).setRow (wv.heap.size + 1) (nat20 r)).rowIs g 58 20 (dig f) := fun h => by
    have h' := row_kept h hb
    have := h'.lt
    have := h.lt
    exact row_setRow_other _ (row_setRow_other _ ((h'.alloc _).alloc _) (by omega)) (by omega)
  have z5 := row_of _ _ _ ((row_new wv fun _ => 0).alloc (.cells (nat20 fun _ => 0) 58))
  have z6 := (setRow_other ((wv.alloc (.cells (nat20 fun _ => 0) 58)).alloc (.cells (nat20 fun _ => 0) 58)) wv.heap.size (wv.heap.size + 1) (nat20 q) (by omega)).trans (row_of _ _ _ (row_new2 wv))
  refine ⟨k h1, k h2, k h3, row_setRow_other _ (row_setRow q z5) (by omega), row_setRow r z6, by omega, by omega, ?_⟩
  have hs4 := h4.size
  have b1 : Below w.heap.size w wv := h4.trans (hb.mono hs4)
  exact below_setRow (below_setRow ((b1.alloc (by omega) _).alloc (by simp; omega) _) (by omega) _) (by omega) _

theorem even_cases (a b q r : Nat → Int) (ha : InR a) (_hb : InR b) (hqq : InR q) (hrr : InR r) (_B0 : 0 < val b 20) (N1 : val a 20 + 1 < 65536 ^ 20) (VQ : val q 20 = val a 20 / val b 20) (VR : val r 20 = val a 20 % val b 20) (hr2 : 2 * val r 20 < 65536 ^ 20) :
    (cmpV (pd r r) b = 1 ∧ val (pd q (ofD 1)) 20 = even (val a 20) (val b 20) ∧ InR (pd q (ofD 1))) ∨ (cmpV (pd r r) b = 0 ∧ q 0 % 2 = 1 ∧ val (pd q (ofD 1)) 20 = even (val a 20) (val b 20) ∧ InR (pd q (ofD 1))) ∨
    (cmpV (pd r r) b = 0 ∧ q 0 % 2 = 0 ∧ val q 20 = even (val a 20) (val b 20)) ∨ (cmpV (pd r r) b = -1 ∧ val q 20 = even (val a 20) (val b 20)) := by
  have e2 := plus_in r r hrr hrr (by omega)
  have va := val_bd 20 ha
  have q1 : val q 20 ≤ val a 20 := by rw [VQ]; exact Int.ediv_le_self _ va.1
  have o1 : val (ofD 1) 20 = 1 := ofD_val 1 (by decide) (by decide)
  have e3 := plus_in q (ofD 1) hqq (ofD_in 1) (by omega)
  obtain ⟨R, hR⟩ := val_tail q 0 (by omega)
  rw [show val q 0 = 0 from rfl, Int.pow_zero, Int.mul_one, Int.zero_add] at hR
  have hpar : q 0 % 2 = val q 20 % 2 := by omega
  have pin : InR (pd q (ofD 1)) := fun i _ => pd_bd _ _ _
  unfold cmpV even
  rw [e2, e3, o1, hpar, ← VQ, ← VR]
  by_cases h1 : val b 20 < 2 * val r 20
  · left
    rw [if_neg (by omega), if_pos (by omega), if_pos (Or.inl h1)]
    exact ⟨rfl, rfl, pin⟩
  · by_cases h2 : 2 * val r 20 = val b 20
    · by_cases h3 : val q 20 % 2 = 1
      · right; left
        rw [if_neg (by omega), if_neg (by omega), if_pos (Or.inr ⟨h2, h3⟩)]
        exact ⟨rfl, h3, rfl, pin⟩
      · right; right; left
        rw [if_neg (by omega), if_neg (by omega), if_neg (by omega)]
        exact ⟨rfl, by omega, rfl⟩
    · right; right; right
      rw [if_pos (by omega), if_neg (by omega)]
      exact ⟨rfl, rfl⟩

set_option maxRecDepth 100000 in
set_option maxHeartbeats 4000000 in
theorem even20_any (a b : Nat → Int) (w : World) (ha : InR a) (hb : InR b) (B0 : 0 < val b 20) (B1 : 2 * val b 20 ≤ 65536 ^ 20) (N1 : val a 20 + 1 < 65536 ^ 20) :
    Calls Tryd.prog 33 #[.agg (nat20 a), .agg (nat20 b)] w fun e w' => ∃ f : Nat → Int, e = .returned (.agg (nat20 f)) ∧ InR f ∧ val f 20 = even (val a 20) (val b 20) ∧ Below w.heap.size w w' := by
  have x1 := row_new w a
  have x2 := row_new (w.alloc (.cells (nat20 a) 58)) b
  have x3 := row_new ((w.alloc (.cells (nat20 a) 58)).alloc (.cells (nat20 b) 58)) (fun _ => 0)
  simp only [World.size_alloc] at x2 x3
  have X1 := Lib.hid ((x1.alloc (.cells (nat20 b) 58)).alloc (.cells (nat20 fun _ => 0) 58))
  have X2 := Lib.hid (x2.alloc (.cells (nat20 fun _ => 0) 58))
  have X3 := Lib.hid x3
  have X4 := Lib.hid (show Below w.heap.size w (((w.alloc (.cells (nat20 a) 58)).alloc (.cells (nat20 b) 58)).alloc (.cells (nat20 fun _ => 0) 58)) from (((Below.refl _ _).alloc (Nat.le_refl _) _).alloc (by simp) _).alloc (by simp; omega) _)
  clear x1 x2 x3
  go_enter Tryd.func33, Tryd.ntmps33
  go_upto_region 1 with fail
  rw [zeros20]
  generalize ((w.alloc (.cells (nat20 a) 58)).alloc (.cells (nat20 b) 58)).alloc (.cells (nat20 fun _ => 0) 58) = w0 at X1 X2 X3 X4 ⊢
  have ga := row_of _ _ _ X1.out
  have gb := row_of _ _ _ X2.out
  go_upto_region 2 with (first | (with_reducible refine wpList_load_row rfl 58 _ rfl w.heap.size rfl 58 _ (0, 0) _ ga Tryd.underlying58 rfl (by kernel_rfl) ?_) | (with_reducible refine wpList_load_row rfl 58 _ rfl (w.heap.size + 1) rfl 58 _ (0, 0) _ gb Tryd.underlying58 rfl (by kernel_rfl) ?_) | (go_at_call 40; refine (over20_any _ _ _ ha hb B0 B1).mono ?_; rintro e wv ⟨q, r, rfl, hqq, hrr, vq, vr, hbv⟩; have VQ := Lib.hid vq; have VR := Lib.hid vr; clear vq vr; have z5 := row_of _ _ _ ((row_new wv fun _ => 0).alloc (.cells (nat20 fun _ => 0) 58)); have z6 := (setRow_other ((wv.alloc (.cells (nat20 fun _ => 0) 58)).alloc (.cells (nat20 fun _ => 0) 58)) wv.heap.size (wv.heap.size + 1) (nat20 q) (by omega)).trans (row_of _ _ _ (row_new2 wv)); rw [← zeros20] at z5 z6) | (with_reducible refine wpList_store_row rfl 58 _ _ rfl wv.heap.size _ rfl rfl 58 _ z5 (by kernel_rfl) (by kernel_rfl) (by kernel_rfl) ?_) | (with_reducible refine wpList_store_row rfl 58 _ _ rfl (wv.heap.size + 1) _ rfl rfl 58 _ z6 (by kernel_rfl) (by kernel_rfl) (by kernel_rfl) ?_))
  have W0 : Hid (EvenRows w _ a b q r wv.heap.size (wv.heap.size + 1)) := Lib.hid (show EvenRows w (((( wv.alloc (.cells (nat20 fun _ => 0) 58)).alloc (.cells (nat20 fun _ => 0) 58)).setRow wv.heap.size (nat20 q)).setRow (wv.heap.size + 1) (nat20 r)) a b q r wv.heap.size (wv.heap.size + 1) from even_start X1.out X2.out X3.out X4.out hbv)
  rw [← zeros20] at W0
  generalize ((( wv.alloc _).alloc _).setRow wv.heap.size (nat20 q)).setRow (wv.heap.size + 1) (nat20 r) = wr at W0 ⊢
  generalize wv.heap.size + 1 = g6 at W0 ⊢
  generalize wv.heap.size = g5 at W0 ⊢
  clear z5 z6 hbv ga gb X1 X2 X3 X4
  simp only [Act.put]
  go_cut [7] from 14 to 18 (fun t7 wx => t7 = .int .i64 (cmpV (pd r r) b) ∧ Hid (EvenRows w wx a b q r g5 g6))
  case first =>
    refine wp_region_any (by kernel_rfl) ?_
    change wpAny _ _ _ _ _ _ _ (World.drew _)
    have W0 := Lib.hid (W0.out.drewN 1)
    have gr0 := row_of _ _ _ W0.out.rr
    have gb0 := row_of _ _ _ W0.out.rb
    refine wpAny_ready (rs := [0, 1, 3]) (by kernel_rfl) (by simp) ?_
    refine ready_load rfl rfl 58 _ rfl (g6) rfl 58 _ (0, 0) _ gr0 Tryd.underlying58 rfl (by kernel_rfl) ?_ ?_
    · refine wpAny_ready (rs := [1, 3]) (by kernel_rfl) (by simp) ?_
      refine ready_load rfl rfl 58 _ rfl (g6) rfl 58 _ (0, 0) _ gr0 Tryd.underlying58 rfl (by kernel_rfl) ?_ ?_
      · refine wpAny_ready (rs := [2, 3]) (by kernel_rfl) (by simp) ?_
        refine AllReady.cons rfl (fun K hK => ?_) ?_
        · go_simp
          refine (plus_any _ _ _ hrr hrr).mono ?_
          rintro e w1 ⟨rfl, hb1⟩
          have W1 := Lib.hid (W0.out.keep hb1)
          have gb1 := row_of _ _ _ W1.out.rb
          have gr1 := row_of _ _ _ W1.out.rr
          refine hK _ _ ?_
          clear hK K
          refine wpAny_ready (rs := [3]) (by kernel_rfl) (by simp) ?_
          refine ready_load rfl rfl 58 _ rfl (w.heap.size + 1) rfl 58 _ (0, 0) _ gb1 Tryd.underlying58 rfl (by kernel_rfl) ?_ ?_
          · refine wpAny_ready (rs := [4]) (by kernel_rfl) (by simp) ?_
            refine AllReady.cons rfl (fun K hK => ?_) ?_
            · go_simp
              refine (cmp_any _ _ _ (fun i _ => pd_bd r r i) hb).mono ?_
              rintro e w2 ⟨rfl, hb2⟩
              have W2 := Lib.hid (W1.out.keep hb2)
              refine hK _ _ ?_
              clear hK K
              refine wpAny_ready (rs := [5]) (by kernel_rfl) (by simp) ?_
              refine AllReady.cons rfl (fun K hK => ?_) ?_
              · go_simp
                refine hK _ _ ?_
                clear hK K
                refine wpAny_done (by kernel_rfl) ?_ _
                try simp only [Act.put, List.getElem_toArray, List.getElem_cons_zero, List.getElem_cons_succ]
                go_wp2_with fail
                go_meet
                exact ⟨rfl, W2⟩
              · exact AllReady.nil
            · exact AllReady.nil
          · exact AllReady.nil
        · refine ready_load rfl rfl 58 _ rfl (w.heap.size + 1) rfl 58 _ (0, 0) _ gb0 Tryd.underlying58 rfl (by kernel_rfl) ?_ ?_
          · refine wpAny_ready (rs := [2]) (by kernel_rfl) (by simp) ?_
            refine AllReady.cons rfl (fun K hK => ?_) ?_
            · go_simp
              refine (plus_any _ _ _ hrr hrr).mono ?_
              rintro e w1 ⟨rfl, hb1⟩
              have W1 := Lib.hid (W0.out.keep hb1)
              have gb1 := row_of _ _ _ W1.out.rb
              have gr1 := row_of _ _ _ W1.out.rr
              refine hK _ _ ?_
              clear hK K
              refine wpAny_ready (rs := [4]) (by kernel_rfl) (by simp) ?_
              refine AllReady.cons rfl (fun K hK => ?_) ?_
              · go_simp
                refine (cmp_any _ _ _ (fun i _ => pd_bd r r i) hb).mono ?_
                rintro e w2 ⟨rfl, hb2⟩
                have W2 := Lib.hid (W1.out.keep hb2)
                refine hK _ _ ?_
                clear hK K
                refine wpAny_ready (rs := [5]) (by kernel_rfl) (by simp) ?_
                refine AllReady.cons rfl (fun K hK => ?_) ?_
                · go_simp
                  refine hK _ _ ?_
                  clear hK K
                  refine wpAny_done (by kernel_rfl) ?_ _
                  try simp only [Act.put, List.getElem_toArray, List.getElem_cons_zero, List.getElem_cons_succ]
                  go_wp2_with fail
                  go_meet
                  exact ⟨rfl, W2⟩
                · exact AllReady.nil
              · exact AllReady.nil
            · exact AllReady.nil
          · exact AllReady.nil
      · refine ready_load rfl rfl 58 _ rfl (w.heap.size + 1) rfl 58 _ (0, 0) _ gb0 Tryd.underlying58 rfl (by kernel_rfl) ?_ ?_
        · refine wpAny_ready (rs := [1]) (by kernel_rfl) (by simp) ?_
          refine ready_load rfl rfl 58 _ rfl (g6) rfl 58 _ (0, 0) _ gr0 Tryd.underlying58 rfl (by kernel_rfl) ?_ ?_
          · refine wpAny_ready (rs := [2]) (by kernel_rfl) (by simp) ?_
            refine AllReady.cons rfl (fun K hK => ?_) ?_
            · go_simp
              refine (plus_any _ _ _ hrr hrr).mono ?_
              rintro e w1 ⟨rfl, hb1⟩
              have W1 := Lib.hid (W0.out.keep hb1)
              have gb1 := row_of _ _ _ W1.out.rb
              have gr1 := row_of _ _ _ W1.out.rr
              refine hK _ _ ?_
              clear hK K
              refine wpAny_ready (rs := [4]) (by kernel_rfl) (by simp) ?_
              refine AllReady.cons rfl (fun K hK => ?_) ?_
              · go_simp
                refine (cmp_any _ _ _ (fun i _ => pd_bd r r i) hb).mono ?_
                rintro e w2 ⟨rfl, hb2⟩
                have W2 := Lib.hid (W1.out.keep hb2)
                refine hK _ _ ?_
                clear hK K
                refine wpAny_ready (rs := [5]) (by kernel_rfl) (by simp) ?_
                refine AllReady.cons rfl (fun K hK => ?_) ?_
                · go_simp
                  refine hK _ _ ?_
                  clear hK K
                  refine wpAny_done (by kernel_rfl) ?_ _
                  try simp only [Act.put, List.getElem_toArray, List.getElem_cons_zero, List.getElem_cons_succ]
                  go_wp2_with fail
                  go_meet
                  exact ⟨rfl, W2⟩
                · exact AllReady.nil
              · exact AllReady.nil
            · exact AllReady.nil
          · exact AllReady.nil
        · exact AllReady.nil
    · refine ready_load rfl rfl 58 _ rfl (g6) rfl 58 _ (0, 0) _ gr0 Tryd.underlying58 rfl (by kernel_rfl) ?_ ?_
      · refine wpAny_ready (rs := [0, 3]) (by kernel_rfl) (by simp) ?_
        refine ready_load rfl rfl 58 _ rfl (g6) rfl 58 _ (0, 0) _ gr0 Tryd.underlying58 rfl (by kernel_rfl) ?_ ?_
        · refine wpAny_ready (rs := [2, 3]) (by kernel_rfl) (by simp) ?_
          refine AllReady.cons rfl (fun K hK => ?_) ?_
          · go_simp
            refine (plus_any _ _ _ hrr hrr).mono ?_
            rintro e w1 ⟨rfl, hb1⟩
            have W1 := Lib.hid (W0.out.keep hb1)
            have gb1 := row_of _ _ _ W1.out.rb
            have gr1 := row_of _ _ _ W1.out.rr
            refine hK _ _ ?_
            clear hK K
            refine wpAny_ready (rs := [3]) (by kernel_rfl) (by simp) ?_
            refine ready_load rfl rfl 58 _ rfl (w.heap.size + 1) rfl 58 _ (0, 0) _ gb1 Tryd.underlying58 rfl (by kernel_rfl) ?_ ?_
            · refine wpAny_ready (rs := [4]) (by kernel_rfl) (by simp) ?_
              refine AllReady.cons rfl (fun K hK => ?_) ?_
              · go_simp
                refine (cmp_any _ _ _ (fun i _ => pd_bd r r i) hb).mono ?_
                rintro e w2 ⟨rfl, hb2⟩
                have W2 := Lib.hid (W1.out.keep hb2)
                refine hK _ _ ?_
                clear hK K
                refine wpAny_ready (rs := [5]) (by kernel_rfl) (by simp) ?_
                refine AllReady.cons rfl (fun K hK => ?_) ?_
                · go_simp
                  refine hK _ _ ?_
                  clear hK K
                  refine wpAny_done (by kernel_rfl) ?_ _
                  try simp only [Act.put, List.getElem_toArray, List.getElem_cons_zero, List.getElem_cons_succ]
                  go_wp2_with fail
                  go_meet
                  exact ⟨rfl, W2⟩
                · exact AllReady.nil
              · exact AllReady.nil
            · exact AllReady.nil
          · refine ready_load rfl rfl 58 _ rfl (w.heap.size + 1) rfl 58 _ (0, 0) _ gb0 Tryd.underlying58 rfl (by kernel_rfl) ?_ ?_
            · refine wpAny_ready (rs := [2]) (by kernel_rfl) (by simp) ?_
              refine AllReady.cons rfl (fun K hK => ?_) ?_
              · go_simp
                refine (plus_any _ _ _ hrr hrr).mono ?_
                rintro e w1 ⟨rfl, hb1⟩
                have W1 := Lib.hid (W0.out.keep hb1)
                have gb1 := row_of _ _ _ W1.out.rb
                have gr1 := row_of _ _ _ W1.out.rr
                refine hK _ _ ?_
                clear hK K
                refine wpAny_ready (rs := [4]) (by kernel_rfl) (by simp) ?_
                refine AllReady.cons rfl (fun K hK => ?_) ?_
                · go_simp
                  refine (cmp_any _ _ _ (fun i _ => pd_bd r r i) hb).mono ?_
                  rintro e w2 ⟨rfl, hb2⟩
                  have W2 := Lib.hid (W1.out.keep hb2)
                  refine hK _ _ ?_
                  clear hK K
                  refine wpAny_ready (rs := [5]) (by kernel_rfl) (by simp) ?_
                  refine AllReady.cons rfl (fun K hK => ?_) ?_
                  · go_simp
                    refine hK _ _ ?_
                    clear hK K
                    refine wpAny_done (by kernel_rfl) ?_ _
                    try simp only [Act.put, List.getElem_toArray, List.getElem_cons_zero, List.getElem_cons_succ]
                    go_wp2_with fail
                    go_meet
                    exact ⟨rfl, W2⟩
                  · exact AllReady.nil
                · exact AllReady.nil
              · exact AllReady.nil
            · exact AllReady.nil
        · refine ready_load rfl rfl 58 _ rfl (w.heap.size + 1) rfl 58 _ (0, 0) _ gb0 Tryd.underlying58 rfl (by kernel_rfl) ?_ ?_
          · refine wpAny_ready (rs := [0]) (by kernel_rfl) (by simp) ?_
            refine ready_load rfl rfl 58 _ rfl (g6) rfl 58 _ (0, 0) _ gr0 Tryd.underlying58 rfl (by kernel_rfl) ?_ ?_
            · refine wpAny_ready (rs := [2]) (by kernel_rfl) (by simp) ?_
              refine AllReady.cons rfl (fun K hK => ?_) ?_
              · go_simp
                refine (plus_any _ _ _ hrr hrr).mono ?_
                rintro e w1 ⟨rfl, hb1⟩
                have W1 := Lib.hid (W0.out.keep hb1)
                have gb1 := row_of _ _ _ W1.out.rb
                have gr1 := row_of _ _ _ W1.out.rr
                refine hK _ _ ?_
                clear hK K
                refine wpAny_ready (rs := [4]) (by kernel_rfl) (by simp) ?_
                refine AllReady.cons rfl (fun K hK => ?_) ?_
                · go_simp
                  refine (cmp_any _ _ _ (fun i _ => pd_bd r r i) hb).mono ?_
                  rintro e w2 ⟨rfl, hb2⟩
                  have W2 := Lib.hid (W1.out.keep hb2)
                  refine hK _ _ ?_
                  clear hK K
                  refine wpAny_ready (rs := [5]) (by kernel_rfl) (by simp) ?_
                  refine AllReady.cons rfl (fun K hK => ?_) ?_
                  · go_simp
                    refine hK _ _ ?_
                    clear hK K
                    refine wpAny_done (by kernel_rfl) ?_ _
                    try simp only [Act.put, List.getElem_toArray, List.getElem_cons_zero, List.getElem_cons_succ]
                    go_wp2_with fail
                    go_meet
                    exact ⟨rfl, W2⟩
                  · exact AllReady.nil
                · exact AllReady.nil
              · exact AllReady.nil
            · exact AllReady.nil
          · exact AllReady.nil
      · refine ready_load rfl rfl 58 _ rfl (w.heap.size + 1) rfl 58 _ (0, 0) _ gb0 Tryd.underlying58 rfl (by kernel_rfl) ?_ ?_
        · refine wpAny_ready (rs := [0, 1]) (by kernel_rfl) (by simp) ?_
          refine ready_load rfl rfl 58 _ rfl (g6) rfl 58 _ (0, 0) _ gr0 Tryd.underlying58 rfl (by kernel_rfl) ?_ ?_
          · refine wpAny_ready (rs := [1]) (by kernel_rfl) (by simp) ?_
            refine ready_load rfl rfl 58 _ rfl (g6) rfl 58 _ (0, 0) _ gr0 Tryd.underlying58 rfl (by kernel_rfl) ?_ ?_
            · refine wpAny_ready (rs := [2]) (by kernel_rfl) (by simp) ?_
              refine AllReady.cons rfl (fun K hK => ?_) ?_
              · go_simp
                refine (plus_any _ _ _ hrr hrr).mono ?_
                rintro e w1 ⟨rfl, hb1⟩
                have W1 := Lib.hid (W0.out.keep hb1)
                have gb1 := row_of _ _ _ W1.out.rb
                have gr1 := row_of _ _ _ W1.out.rr
                refine hK _ _ ?_
                clear hK K
                refine wpAny_ready (rs := [4]) (by kernel_rfl) (by simp) ?_
                refine AllReady.cons rfl (fun K hK => ?_) ?_
                · go_simp
                  refine (cmp_any _ _ _ (fun i _ => pd_bd r r i) hb).mono ?_
                  rintro e w2 ⟨rfl, hb2⟩
                  have W2 := Lib.hid (W1.out.keep hb2)
                  refine hK _ _ ?_
                  clear hK K
                  refine wpAny_ready (rs := [5]) (by kernel_rfl) (by simp) ?_
                  refine AllReady.cons rfl (fun K hK => ?_) ?_
                  · go_simp
                    refine hK _ _ ?_
                    clear hK K
                    refine wpAny_done (by kernel_rfl) ?_ _
                    try simp only [Act.put, List.getElem_toArray, List.getElem_cons_zero, List.getElem_cons_succ]
                    go_wp2_with fail
                    go_meet
                    exact ⟨rfl, W2⟩
                  · exact AllReady.nil
                · exact AllReady.nil
              · exact AllReady.nil
            · exact AllReady.nil
          · refine ready_load rfl rfl 58 _ rfl (g6) rfl 58 _ (0, 0) _ gr0 Tryd.underlying58 rfl (by kernel_rfl) ?_ ?_
            · refine wpAny_ready (rs := [0]) (by kernel_rfl) (by simp) ?_
              refine ready_load rfl rfl 58 _ rfl (g6) rfl 58 _ (0, 0) _ gr0 Tryd.underlying58 rfl (by kernel_rfl) ?_ ?_
              · refine wpAny_ready (rs := [2]) (by kernel_rfl) (by simp) ?_
                refine AllReady.cons rfl (fun K hK => ?_) ?_
                · go_simp
                  refine (plus_any _ _ _ hrr hrr).mono ?_
                  rintro e w1 ⟨rfl, hb1⟩
                  have W1 := Lib.hid (W0.out.keep hb1)
                  have gb1 := row_of _ _ _ W1.out.rb
                  have gr1 := row_of _ _ _ W1.out.rr
                  refine hK _ _ ?_
                  clear hK K
                  refine wpAny_ready (rs := [4]) (by kernel_rfl) (by simp) ?_
                  refine AllReady.cons rfl (fun K hK => ?_) ?_
                  · go_simp
                    refine (cmp_any _ _ _ (fun i _ => pd_bd r r i) hb).mono ?_
                    rintro e w2 ⟨rfl, hb2⟩
                    have W2 := Lib.hid (W1.out.keep hb2)
                    refine hK _ _ ?_
                    clear hK K
                    refine wpAny_ready (rs := [5]) (by kernel_rfl) (by simp) ?_
                    refine AllReady.cons rfl (fun K hK => ?_) ?_
                    · go_simp
                      refine hK _ _ ?_
                      clear hK K
                      refine wpAny_done (by kernel_rfl) ?_ _
                      try simp only [Act.put, List.getElem_toArray, List.getElem_cons_zero, List.getElem_cons_succ]
                      go_wp2_with fail
                      go_meet
                      exact ⟨rfl, W2⟩
                    · exact AllReady.nil
                  · exact AllReady.nil
                · exact AllReady.nil
              · exact AllReady.nil
            · exact AllReady.nil
        · exact AllReady.nil

  case rest =>
    obtain ⟨rfl, HW⟩ := hcut
    have r1 : val r 20 < val b 20 := by rw [VR.out]; exact Int.emod_lt_of_pos _ B0
    have e2 := plus_in r r hrr hrr (by omega)
    have hs := even_cases a b q r ha hb hqq hrr B0 N1 VQ.out VR.out (by omega)
    obtain ⟨c, hc⟩ : ∃ c, cmpV (pd r r) b = c := ⟨_, rfl⟩
    rw [hc] at hs ⊢
    clear hc e2 r1
    have q0 := (hqq 0 (by omega)).1
    have cq := HW.out.rq.cell (i := 0) (by omega)
    simp only [dig] at cq
    rcases hs with ⟨h1, hv, hi⟩ | ⟨h1, h2, hv, hi⟩ | ⟨h1, h2, hv⟩ | ⟨h1, hv⟩
    · have HIN := Lib.hid hi
      have HVAL := Lib.hid hv
      clear hi hv
      subst h1
      go_upto_region 4 with fail
      refine wp_region_any (by kernel_rfl) ?_
      change wpAny _ _ _ _ _ _ _ (World.drew _)
      have V0 := Lib.hid (HW.out.drewN 1)
      have gq0 := row_of _ _ _ V0.out.rq
      refine wpAny_ready (rs := [0, 1]) (by kernel_rfl) (by simp) ?_
      refine ready_load rfl rfl 58 _ rfl (g5) rfl 58 _ (0, 0) _ gq0 Tryd.underlying58 rfl (by kernel_rfl) ?_ ?_
      · refine wpAny_ready (rs := [1]) (by kernel_rfl) (by simp) ?_
        refine AllReady.cons rfl (fun K hK => ?_) ?_
        · go_simp
          refine (of_any 1 _ (by decide) (by decide)).mono ?_
          rintro e w1 ⟨rfl, hb1⟩
          have V1 := Lib.hid (V0.out.keep hb1)
          have gq1 := row_of _ _ _ V1.out.rq
          refine hK _ _ ?_
          clear hK K
          refine wpAny_ready (rs := [2]) (by kernel_rfl) (by simp) ?_
          refine AllReady.cons rfl (fun K hK => ?_) ?_
          · go_simp
            refine (plus_any _ _ _ hqq (ofD_in 1)).mono ?_
            rintro e w2 ⟨rfl, hb2⟩
            have V2 := Lib.hid (V1.out.keep hb2)
            have gq2 := row_of _ _ _ V2.out.rq
            refine hK _ _ ?_
            clear hK K
            refine wpAny_ready (rs := [3]) (by kernel_rfl) (by simp) ?_
            refine ready_store rfl rfl 58 _ _ rfl (g5) _ rfl rfl 58 _ gq2 (by kernel_rfl) (by kernel_rfl) (by kernel_rfl) ?_ ?_
            · refine wpAny_done (by kernel_rfl) ?_ _
              try simp only [Act.put, List.getElem_toArray, List.getElem_cons_zero, List.getElem_cons_succ]
              have V3 := Lib.hid (V2.out.setQ (pd q (ofD 1)))
              generalize w2.setRow g5 (nat20 (pd q (ofD 1))) = w3 at V3 ⊢
              have gqz := row_of _ _ _ V3.out.rq
              have g4z := row_of _ _ _ V3.out.r4
              go_wp2_with (first | (with_reducible refine wpList_load_row rfl 58 _ rfl g5 rfl 58 _ (0, 0) _ gqz Tryd.underlying58 rfl (by kernel_rfl) ?_) | (with_reducible refine wpList_store_row rfl 58 _ _ rfl (w.heap.size + 1 + 1) _ rfl rfl 58 _ g4z (by kernel_rfl) (by kernel_rfl) (by kernel_rfl) ?_))
              exact bodyPost_ret (v := .agg (nat20 (pd q (ofD 1)))) (ret20 rfl _ _ _ _ _ rfl g4z) rfl ⟨(pd q (ofD 1)), rfl, HIN.out, HVAL.out, below_setRow V3.out.bl (by omega) _⟩
            · exact AllReady.nil
          · exact AllReady.nil
        · exact AllReady.nil
      · refine AllReady.cons rfl (fun K hK => ?_) ?_
        · go_simp
          refine (of_any 1 _ (by decide) (by decide)).mono ?_
          rintro e w1 ⟨rfl, hb1⟩
          have V1 := Lib.hid (V0.out.keep hb1)
          have gq1 := row_of _ _ _ V1.out.rq
          refine hK _ _ ?_
          clear hK K
          refine wpAny_ready (rs := [0]) (by kernel_rfl) (by simp) ?_
          refine ready_load rfl rfl 58 _ rfl (g5) rfl 58 _ (0, 0) _ gq1 Tryd.underlying58 rfl (by kernel_rfl) ?_ ?_
          · refine wpAny_ready (rs := [2]) (by kernel_rfl) (by simp) ?_
            refine AllReady.cons rfl (fun K hK => ?_) ?_
            · go_simp
              refine (plus_any _ _ _ hqq (ofD_in 1)).mono ?_
              rintro e w2 ⟨rfl, hb2⟩
              have V2 := Lib.hid (V1.out.keep hb2)
              have gq2 := row_of _ _ _ V2.out.rq
              refine hK _ _ ?_
              clear hK K
              refine wpAny_ready (rs := [3]) (by kernel_rfl) (by simp) ?_
              refine ready_store rfl rfl 58 _ _ rfl (g5) _ rfl rfl 58 _ gq2 (by kernel_rfl) (by kernel_rfl) (by kernel_rfl) ?_ ?_
              · refine wpAny_done (by kernel_rfl) ?_ _
                try simp only [Act.put, List.getElem_toArray, List.getElem_cons_zero, List.getElem_cons_succ]
                have V3 := Lib.hid (V2.out.setQ (pd q (ofD 1)))
                generalize w2.setRow g5 (nat20 (pd q (ofD 1))) = w3 at V3 ⊢
                have gqz := row_of _ _ _ V3.out.rq
                have g4z := row_of _ _ _ V3.out.r4
                go_wp2_with (first | (with_reducible refine wpList_load_row rfl 58 _ rfl g5 rfl 58 _ (0, 0) _ gqz Tryd.underlying58 rfl (by kernel_rfl) ?_) | (with_reducible refine wpList_store_row rfl 58 _ _ rfl (w.heap.size + 1 + 1) _ rfl rfl 58 _ g4z (by kernel_rfl) (by kernel_rfl) (by kernel_rfl) ?_))
                exact bodyPost_ret (v := .agg (nat20 (pd q (ofD 1)))) (ret20 rfl _ _ _ _ _ rfl g4z) rfl ⟨(pd q (ofD 1)), rfl, HIN.out, HVAL.out, below_setRow V3.out.bl (by omega) _⟩
              · exact AllReady.nil
            · exact AllReady.nil
          · exact AllReady.nil
        · exact AllReady.nil
    · have HIN := Lib.hid hi
      have HVAL := Lib.hid hv
      clear hi hv
      subst h1
      have h3 : (q 0 % 2 == 1) = true := by simp [h2]
      generalize q 0 = x at cq q0 h3
      clear h2
      go_upto_region 4 with fail
      refine wp_region_any (by kernel_rfl) ?_
      change wpAny _ _ _ _ _ _ _ (World.drew _)
      have V0 := Lib.hid (HW.out.drewN 1)
      have gq0 := row_of _ _ _ V0.out.rq
      refine wpAny_ready (rs := [0, 1]) (by kernel_rfl) (by simp) ?_
      refine ready_load rfl rfl 58 _ rfl (g5) rfl 58 _ (0, 0) _ gq0 Tryd.underlying58 rfl (by kernel_rfl) ?_ ?_
      · refine wpAny_ready (rs := [1]) (by kernel_rfl) (by simp) ?_
        refine AllReady.cons rfl (fun K hK => ?_) ?_
        · go_simp
          refine (of_any 1 _ (by decide) (by decide)).mono ?_
          rintro e w1 ⟨rfl, hb1⟩
          have V1 := Lib.hid (V0.out.keep hb1)
          have gq1 := row_of _ _ _ V1.out.rq
          refine hK _ _ ?_
          clear hK K
          refine wpAny_ready (rs := [2]) (by kernel_rfl) (by simp) ?_
          refine AllReady.cons rfl (fun K hK => ?_) ?_
          · go_simp
            refine (plus_any _ _ _ hqq (ofD_in 1)).mono ?_
            rintro e w2 ⟨rfl, hb2⟩
            have V2 := Lib.hid (V1.out.keep hb2)
            have gq2 := row_of _ _ _ V2.out.rq
            refine hK _ _ ?_
            clear hK K
            refine wpAny_ready (rs := [3]) (by kernel_rfl) (by simp) ?_
            refine ready_store rfl rfl 58 _ _ rfl (g5) _ rfl rfl 58 _ gq2 (by kernel_rfl) (by kernel_rfl) (by kernel_rfl) ?_ ?_
            · refine wpAny_done (by kernel_rfl) ?_ _
              try simp only [Act.put, List.getElem_toArray, List.getElem_cons_zero, List.getElem_cons_succ]
              have V3 := Lib.hid (V2.out.setQ (pd q (ofD 1)))
              generalize w2.setRow g5 (nat20 (pd q (ofD 1))) = w3 at V3 ⊢
              have gqz := row_of _ _ _ V3.out.rq
              have g4z := row_of _ _ _ V3.out.r4
              go_wp2_with (first | (with_reducible refine wpList_load_row rfl 58 _ rfl g5 rfl 58 _ (0, 0) _ gqz Tryd.underlying58 rfl (by kernel_rfl) ?_) | (with_reducible refine wpList_store_row rfl 58 _ _ rfl (w.heap.size + 1 + 1) _ rfl rfl 58 _ g4z (by kernel_rfl) (by kernel_rfl) (by kernel_rfl) ?_))
              exact bodyPost_ret (v := .agg (nat20 (pd q (ofD 1)))) (ret20 rfl _ _ _ _ _ rfl g4z) rfl ⟨(pd q (ofD 1)), rfl, HIN.out, HVAL.out, below_setRow V3.out.bl (by omega) _⟩
            · exact AllReady.nil
          · exact AllReady.nil
        · exact AllReady.nil
      · refine AllReady.cons rfl (fun K hK => ?_) ?_
        · go_simp
          refine (of_any 1 _ (by decide) (by decide)).mono ?_
          rintro e w1 ⟨rfl, hb1⟩
          have V1 := Lib.hid (V0.out.keep hb1)
          have gq1 := row_of _ _ _ V1.out.rq
          refine hK _ _ ?_
          clear hK K
          refine wpAny_ready (rs := [0]) (by kernel_rfl) (by simp) ?_
          refine ready_load rfl rfl 58 _ rfl (g5) rfl 58 _ (0, 0) _ gq1 Tryd.underlying58 rfl (by kernel_rfl) ?_ ?_
          · refine wpAny_ready (rs := [2]) (by kernel_rfl) (by simp) ?_
            refine AllReady.cons rfl (fun K hK => ?_) ?_
            · go_simp
              refine (plus_any _ _ _ hqq (ofD_in 1)).mono ?_
              rintro e w2 ⟨rfl, hb2⟩
              have V2 := Lib.hid (V1.out.keep hb2)
              have gq2 := row_of _ _ _ V2.out.rq
              refine hK _ _ ?_
              clear hK K
              refine wpAny_ready (rs := [3]) (by kernel_rfl) (by simp) ?_
              refine ready_store rfl rfl 58 _ _ rfl (g5) _ rfl rfl 58 _ gq2 (by kernel_rfl) (by kernel_rfl) (by kernel_rfl) ?_ ?_
              · refine wpAny_done (by kernel_rfl) ?_ _
                try simp only [Act.put, List.getElem_toArray, List.getElem_cons_zero, List.getElem_cons_succ]
                have V3 := Lib.hid (V2.out.setQ (pd q (ofD 1)))
                generalize w2.setRow g5 (nat20 (pd q (ofD 1))) = w3 at V3 ⊢
                have gqz := row_of _ _ _ V3.out.rq
                have g4z := row_of _ _ _ V3.out.r4
                go_wp2_with (first | (with_reducible refine wpList_load_row rfl 58 _ rfl g5 rfl 58 _ (0, 0) _ gqz Tryd.underlying58 rfl (by kernel_rfl) ?_) | (with_reducible refine wpList_store_row rfl 58 _ _ rfl (w.heap.size + 1 + 1) _ rfl rfl 58 _ g4z (by kernel_rfl) (by kernel_rfl) (by kernel_rfl) ?_))
                exact bodyPost_ret (v := .agg (nat20 (pd q (ofD 1)))) (ret20 rfl _ _ _ _ _ rfl g4z) rfl ⟨(pd q (ofD 1)), rfl, HIN.out, HVAL.out, below_setRow V3.out.bl (by omega) _⟩
              · exact AllReady.nil
            · exact AllReady.nil
          · exact AllReady.nil
        · exact AllReady.nil
    · have HIN := Lib.hid hqq
      have HVAL := Lib.hid hv
      clear hv
      subst h1
      have h3 : (q 0 % 2 == 1) = false := by simp [h2]
      generalize q 0 = x at cq q0 h3
      clear h2
      -- no more
      have gqz := row_of _ _ _ HW.out.rq
      have g4z := row_of _ _ _ HW.out.r4
      go_wp2_with (first | (with_reducible refine wpList_load_row rfl 58 _ rfl g5 rfl 58 _ (0, 0) _ gqz Tryd.underlying58 rfl (by kernel_rfl) ?_) | (with_reducible refine wpList_store_row rfl 58 _ _ rfl (w.heap.size + 1 + 1) _ rfl rfl 58 _ g4z (by kernel_rfl) (by kernel_rfl) (by kernel_rfl) ?_))
      exact bodyPost_ret (v := .agg (nat20 q)) (ret20 rfl _ _ _ _ _ rfl g4z) rfl ⟨q, rfl, HIN.out, HVAL.out, below_setRow HW.out.bl (by omega) _⟩
    · have HIN := Lib.hid hqq
      have HVAL := Lib.hid hv
      clear hv
      subst h1
      -- no more
      have gqz := row_of _ _ _ HW.out.rq
      have g4z := row_of _ _ _ HW.out.r4
      go_wp2_with (first | (with_reducible refine wpList_load_row rfl 58 _ rfl g5 rfl 58 _ (0, 0) _ gqz Tryd.underlying58 rfl (by kernel_rfl) ?_) | (with_reducible refine wpList_store_row rfl 58 _ _ rfl (w.heap.size + 1 + 1) _ rfl rfl 58 _ g4z (by kernel_rfl) (by kernel_rfl) (by kernel_rfl) ?_))
      exact bodyPost_ret (v := .agg (nat20 q)) (ret20 rfl _ _ _ _ _ rfl g4z) rfl ⟨q, rfl, HIN.out, HVAL.out, below_setRow HW.out.bl (by omega) _⟩

end Go.Proofs.YtefkabkncmflpaaDoor
