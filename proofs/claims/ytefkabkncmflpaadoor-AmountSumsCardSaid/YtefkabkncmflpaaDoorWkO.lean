/-
  Walks over twenty digits: Over.
-/
import Derived.Test.YtefkabkncmflpaaDoorWkT
import Derived.StillTailTactics
import Derived.BigRegion
import Derived.Deep.RegionLaw
namespace Go.Proofs.YtefkabkncmflpaaDoor
open Go.RowKit

theorem row_setRow {w : World} {g : Nat} {old : Array Value} (f : Nat → Int) (hg : w.heap[g]? = some (.cells old 58 (0, 0))) : (w.setRow g (nat20 f)).rowIs g 58 20 (dig f) :=
  ⟨nat20 f, setRow_heap w g old _ _ _ hg, nat20_size f, fun i hi => nat20_get f i hi⟩
theorem row_setRow_other {w : World} {g b t n : Nat} {f : Nat → Value} (cs : Array Value) (h : w.rowIs b t n f) (e : b ≠ g) : (w.setRow g cs).rowIs b t n f := h.of_block (setRow_other w g b cs e)

/-- What stands in the six blocks of a division. -/
structure OverRows (w wr : World) (a b q r : Nat → Int) : Prop where
  ra : wr.rowIs w.heap.size 58 20 (dig a)
  rb : wr.rowIs (w.heap.size + 1) 58 20 (dig b)
  r4 : wr.rowIs (w.heap.size + 1 + 1) 58 20 (dig fun _ => 0)
  r5 : wr.rowIs (w.heap.size + 1 + 1 + 1) 58 20 (dig fun _ => 0)
  rq : wr.rowIs (w.heap.size + 1 + 1 + 1 + 1) 58 20 (dig q)
  rr : wr.rowIs (w.heap.size + 1 + 1 + 1 + 1 + 1) 58 20 (dig r)
  bl : Below w.heap.size w wr

theorem OverRows.keep {w wr w' : World} {a b q r : Nat → Int} (h : OverRows w wr a b q r) (hb : Below wr.heap.size wr w') : OverRows w w' a b q r :=
  ⟨row_kept h.ra hb, row_kept h.rb hb, row_kept h.r4 hb, row_kept h.r5 hb, row_kept h.rq hb, row_kept h.rr hb, h.bl.trans (hb.mono h.bl.size)⟩
theorem OverRows.setR {w wr : World} {a b q r : Nat → Int} (h : OverRows w wr a b q r) (f : Nat → Int) : OverRows w (wr.setRow (w.heap.size + 1 + 1 + 1 + 1 + 1) (nat20 f)) a b q f :=
  ⟨row_setRow_other _ h.ra (by omega), row_setRow_other _ h.rb (by omega), row_setRow_other _ h.r4 (by omega), row_setRow_other _ h.r5 (by omega), row_setRow_other _ h.rq (by omega), row_setRow f (row_of _ _ _ h.rr), below_setRow h.bl (by omega) _⟩
theorem OverRows.drewN {w wr : World} {a b q r : Nat → Int} (h : OverRows w wr a b q r) (n : Nat) : OverRows w (wr.drewN n) a b q r := h.keep (drewN_below _ _ _)
theorem OverRows.drew {w wr : World} {a b q r : Nat → Int} (h : OverRows w wr a b q r) : OverRows w wr.drew a b q r := h.drewN 1
theorem row_upd {w : World} {b t : Nat} {F : Nat → Int} (h : w.rowIs b t 20 (dig F)) (k : Nat) (v : Int) : (w.setCell ⟨b, k, none⟩ (.int .u64 v)).rowIs b t 20 (dig (upd F k v)) := row_put0 h k v fun _i _ => rfl
theorem OverRows.putR {w wr : World} {a b q r : Nat → Int} (h : OverRows w wr a b q r) (k : Nat) (v : Int) : OverRows w (wr.setCell ⟨w.heap.size + 1 + 1 + 1 + 1 + 1, k, none⟩ (.int .u64 v)) a b q (upd r k v) :=
  ⟨h.ra.setOther (by first | (simp; done) | (simp; omega)) _, h.rb.setOther (by first | (simp; done) | (simp; omega)) _, h.r4.setOther (by first | (simp; done) | (simp; omega)) _, h.r5.setOther (by first | (simp; done) | (simp; omega)) _, h.rq.setOther (by simp) _, row_upd h.rr k v, h.bl.setCell (by simp; omega) _⟩
theorem OverRows.putQ {w wr : World} {a b q r : Nat → Int} (h : OverRows w wr a b q r) (k : Nat) (v : Int) : OverRows w (wr.setCell ⟨w.heap.size + 1 + 1 + 1 + 1, k, none⟩ (.int .u64 v)) a b (upd q k v) r :=
  ⟨h.ra.setOther (by first | (simp; done) | (simp; omega)) _, h.rb.setOther (by first | (simp; done) | (simp; omega)) _, h.r4.setOther (by first | (simp; done) | (simp; omega)) _, h.r5.setOther (by first | (simp; done) | (simp; omega)) _, row_upd h.rq k v, h.rr.setOther (by simp) _, h.bl.setCell (by simp; omega) _⟩

/-- The state of a division ahead of bit n - 1. -/
structure OverAt (a b q r : Nat → Int) (n : Nat) : Prop where
  hq : InR q
  hr : InR r
  low : Low q n
  vr : val r 20 = val a 20 / 2 ^ n % val b 20
  vq : val q 20 = val a 20 / 2 ^ n / val b 20 * 2 ^ n
  nn : 0 ≤ val a 20

theorem over_vals (a b r : Nat → Int) {f3 : Nat → Int} {x p bt d : Int} {n : Nat} (ha : InR a) (hr : InR r) (vr : val r 20 = val a 20 / 2 ^ n % val b 20) (B0 : 0 < val b 20) (B1 : 2 * val b 20 ≤ 65536 ^ 20) (j t : Nat) (hj : j < 20) (ht : t < 16) (hn : n = 16 * j + t + 1)
    (hf3 : upd (pd r r) 0 (d + bt) = f3) (hx : a j = x) (hp : 2 ^ t = p) (hbt : x / p % 2 = bt) (hd : pd r r 0 = d) :
    InR f3 ∧ val f3 20 = 2 * (val a 20 / 2 ^ (16 * j + t + 1) % val b 20) + val a 20 / 2 ^ (16 * j + t) % 2 := by
  have r1 : val r 20 < val b 20 := by rw [vr]; exact Int.emod_lt_of_pos _ B0
  have hpl := plus_in r r hr hr (by omega)
  have hd2 : 0 ≤ d ∧ d ≤ 65534 := by
    have := hr 0 (by omega)
    rw [← hd]; simp [pd, pc]; omega
  have hb2 : 0 ≤ bt ∧ bt ≤ 1 := by omega
  subst hf3
  refine ⟨upd_in (fun i _ => pd_bd r r i) (by omega), ?_⟩
  rw [val_upd _ _ _ _ (by omega), hpl, hd, vr, hn, ← bit_of a ha j t hj ht, hx, hp, hbt]
  simp; omega

theorem OverAt.yes {a b q r f3 : Nat → Int} {n j t : Nat} {y p : Int} (h : OverAt a b q r n) (hn : n = 16 * j + t + 1) (hb : InR b) (f3in : InR f3)
    (F3 : val f3 20 = 2 * (val a 20 / 2 ^ (16 * j + t + 1) % val b 20) + val a 20 / 2 ^ (16 * j + t) % 2) (hge : val b 20 ≤ val f3 20) (B0 : 0 < val b 20) (hj : j < 20) (ht : t < 16) (hy : q j = y) (hp : 2 ^ t = p) (hyp : 0 ≤ y + p ∧ y + p < 65536) :
    OverAt a b (upd q j (y + p)) (md f3 b) (16 * j + t) := by
  subst hn
  have st := (over_step (val a 20) (val b 20) (16 * j + t) B0 h.nn).1 (by rw [← F3]; exact hge)
  refine ⟨upd_in h.hq hyp, fun i _ => md_bd _ _ _, ?_, ?_, ?_, ?_⟩
  · subst hy; subst hp; exact Low.put h.hq hj ht h.low
  · rw [minus_in _ _ f3in hb hge, F3, st.1]
  · rw [val_upd _ _ _ _ hj, h.vq, hy, st.2, pow_two16 j t, ← hp, show y + 2 ^ t - y = 2 ^ t by omega, Int.mul_comm (2 ^ t : Int)]
  · exact h.nn
theorem OverAt.no {a b q r f3 : Nat → Int} {n j t : Nat} (h : OverAt a b q r n) (hn : n = 16 * j + t + 1) (f3in : InR f3)
    (F3 : val f3 20 = 2 * (val a 20 / 2 ^ (16 * j + t + 1) % val b 20) + val a 20 / 2 ^ (16 * j + t) % 2) (hge : ¬ val b 20 ≤ val f3 20) (hj : j < 20) (ht : t < 16) (B0 : 0 < val b 20) (_h0 : 0 ≤ val a 20) : OverAt a b q f3 (16 * j + t) := by
  subst hn
  have st := (over_step (val a 20) (val b 20) (16 * j + t) B0 h.nn).2 (by rw [← F3]; omega)
  refine ⟨h.hq, f3in, Low.keep h.hq hj ht h.low, ?_, ?_, h.nn⟩
  · rw [F3, st.1]
  · rw [h.vq, st.2]
theorem val_zero (n : Nat) : val (fun _ => 0) n = 0 := by
  induction n with
  | zero => rfl
  | succ n ih => rw [val, ih]; simp
set_option exponentiation.threshold 400 in
theorem OverAt.start (a b : Nat → Int) (ha : InR a) : OverAt a b (fun _ => 0) (fun _ => 0) 320 := by
  have e : (2 : Int) ^ 320 = 65536 ^ 20 := by have := pow_two16 20 0; rw [Int.pow_zero, Int.mul_one] at this; exact this
  have v := val_bd 20 ha
  have z : val a 20 / 2 ^ 320 = 0 := by rw [e]; exact Int.ediv_eq_zero_of_lt v.1 v.2
  exact ⟨fun i _ => by simp, fun i _ => by simp, fun j _ => ⟨fun _ => rfl, fun t _ _ => by simp⟩, by rw [val_zero, z]; simp, by rw [val_zero, z]; simp, v.1⟩

/-- Two results of twenty digits, read out of their blocks. -/
theorem ret20two {fn : Func} {p q : Tmp} (h : fn.results = #[.cell p 58, .cell q 58]) (tmps : Array Value) (w : World) (g g' : Nat) (f f' : Nat → Int)
    (hp : tmps.getD p undef = .pointer (some ⟨g, 0, none⟩)) (hq : tmps.getD q undef = .pointer (some ⟨g', 0, none⟩))
    (hg : w.heap[g]? = some (.cells (nat20 f) 58 (0, 0))) (hg' : w.heap[g']? = some (.cells (nat20 f') 58 (0, 0))) :
    (results fn tmps).run Tryd.prog w = .ok (.tuple #[.agg (nat20 f), .agg (nat20 f')]) w := by
  have e1 := run_loadVar_row (P := Tryd.prog) w g 58 58 (nat20 f) (0, 0) _ hg Tryd.underlying58 rfl (by rw [info58, nat20_size])
  have e2 := run_loadVar_row (P := Tryd.prog) w g' 58 58 (nat20 f') (0, 0) _ hg' Tryd.underlying58 rfl (by rw [info58, nat20_size])
  have hp' : tmps[p]?.getD undef = .pointer (some ⟨g, 0, none⟩) := by simpa using hp
  have hq' : tmps[q]?.getD undef = .pointer (some ⟨g', 0, none⟩) := by simpa using hq
  simp [results, h, hp', hq', asAddr, e1, e2]

section
variable {P : Program} {md : Region.Mode} {ops : Array Oper} {o : Oper} {a : Act} {w : World} {Q : Exit → Act → World → Prop} {fuel i : Nat} {listed : Array Bool} {rs : List Nat}
/-- A whole row read in a region that draws its order, as the next operation. -/
theorem ready_load (ho : ops[i]? = some o) (hgd : o.guard = none) (ty : TypeId) (x : Operand) (hop : o.op = .load ty x)
    (g : Nat) (hx : a.eval x = .pointer (some ⟨g, 0, none⟩)) (t : TypeId) (cs : Array Value) (fr : Nat × Nat) (d : TypeDesc) (hg : w.heap[g]? = some (.cells cs t fr))
    (hu : P.underlying ty = some d) (hd : (match d with | .struct _ | .array _ _ => true | _ => false) = true) (hi : (P.info? ty).map (·.size) = some cs.size)
    (h : wpAny P md ops Q fuel (listed.setIfInBounds i true) (a.put o.dst (.agg cs)) w) (hs : AllReady P md ops Q fuel listed a w rs) : AllReady P md ops Q fuel listed a w (i :: rs) :=
  AllReady.cons ho (fun K hK => by
    have hw : Region.wanted o (yielded ops a.tmps) = true := by simp [Region.wanted, hgd]
    rw [if_pos hw]
    exact wp_load_row ty x hop g hx t cs fr d hg hu hd hi (hK _ _ h)) hs
/-- A whole row written. -/
theorem ready_store (ho : ops[i]? = some o) (hgd : o.guard = none) (ty : TypeId) (x y : Operand) (hop : o.op = .store ty x y)
    (g : Nat) (cells : Array Value) (hx : a.eval x = .pointer (some ⟨g, 0, none⟩)) (hy : a.eval y = .agg cells)
    (t : TypeId) (old : Array Value) (hg : w.heap[g]? = some (.cells old t (0, 0))) (hi : (P.info? ty).map (·.size) = some cells.size)
    (hold : old.size = cells.size) (h1 : cells.all (·.oneCell') = true)
    (h : wpAny P md ops Q fuel (listed.setIfInBounds i true) (a.put o.dst undef) (w.setRow g cells)) (hs : AllReady P md ops Q fuel listed a w rs) : AllReady P md ops Q fuel listed a w (i :: rs) :=
  AllReady.cons ho (fun K hK => by
    have hw : Region.wanted o (yielded ops a.tmps) = true := by simp [Region.wanted, hgd]
    rw [if_pos hw]
    exact wp_store_row ty x y hop g cells hx hy t old hg hi hold h1 (hK _ _ h)) hs
end

set_option maxRecDepth 100000 in
set_option maxHeartbeats 1000000 in
theorem over20_any (a b : Nat → Int) (w : World) (ha : InR a) (hb : InR b) (B0 : 0 < val b 20) (B1 : 2 * val b 20 ≤ 65536 ^ 20) :
    Calls Tryd.prog 40 #[.agg (nat20 a), .agg (nat20 b)] w fun e w' => ∃ q r : Nat → Int, e = .returned (.tuple #[.agg (nat20 q), .agg (nat20 r)]) ∧ InR q ∧ InR r ∧ val q 20 = val a 20 / val b 20 ∧ val r 20 = val a 20 % val b 20 ∧ Below w.heap.size w w' := by
  go_enter Tryd.func40, Tryd.ntmps40
  go_wp2_with fail
  go_loopw [8] (fun t8 wr => ∃ (n : Nat) (q r : Nat → Int), n ≤ 320 ∧ t8 = .int .i64 ((n : Int) - 1) ∧ OverRows w wr a b q r ∧ OverAt a b q r n) (fun t8 _ => (intOf t8 + 1).toNat)
  case atStart =>
    rw [zeros20]
    refine ⟨320, fun _ => 0, fun _ => 0, by omega, rfl, ?_, OverAt.start a b ha⟩
    have x1 := row_new w a
    have x2 := row_new (w.alloc (.cells (nat20 a) 58)) b
    have x3 := row_new ((w.alloc (.cells (nat20 a) 58)).alloc (.cells (nat20 b) 58)) (fun _ => 0)
    have x4 := row_new (((w.alloc (.cells (nat20 a) 58)).alloc (.cells (nat20 b) 58)).alloc (.cells (nat20 fun _ => 0) 58)) (fun _ => 0)
    have x5 := row_new ((((w.alloc (.cells (nat20 a) 58)).alloc (.cells (nat20 b) 58)).alloc (.cells (nat20 fun _ => 0) 58)).alloc (.cells (nat20 fun _ => 0) 58)) (fun _ => 0)
    have x6 := row_new (((((w.alloc (.cells (nat20 a) 58)).alloc (.cells (nat20 b) 58)).alloc (.cells (nat20 fun _ => 0) 58)).alloc (.cells (nat20 fun _ => 0) 58)).alloc (.cells (nat20 fun _ => 0) 58)) (fun _ => 0)
    simp only [World.size_alloc] at x2 x3 x4 x5 x6
    refine ⟨((((x1.alloc _).alloc _).alloc _).alloc _).alloc _, (((x2.alloc _).alloc _).alloc _).alloc _, ((x3.alloc _).alloc _).alloc _, (x4.alloc _).alloc _, x5.alloc _, x6, ?_⟩
    exact (((((Below.refl _ _).alloc (Nat.le_refl _) _).alloc (by simp) _).alloc (by simp; omega) _).alloc (by simp; omega) _).alloc (by simp; omega) _ |>.alloc (by simp; omega) _
  case round =>
    obtain ⟨n, q, r, hn, rfl, HW, HA⟩ := hrel
    by_cases hz : n = 0
    · subst hz
      obtain ⟨vr, vq⟩ : val r 20 = val a 20 % val b 20 ∧ val q 20 = val a 20 / val b 20 := by
        have h1 := HA.vr
        have h2 := HA.vq
        simp only [Int.pow_zero, Int.ediv_one, Int.mul_one] at h1 h2
        exact ⟨h1, h2⟩
      have gq := row_of _ _ _ HW.rq
      have gr := row_of _ _ _ HW.rr
      have g4 := row_of _ _ _ HW.r4
      have g5 := row_of _ _ _ HW.r5
      have HWW := Lib.hid HW
      have HAA := Lib.hid HA
      have HV := Lib.hid (And.intro vr vq)
      clear HW HA vr vq
      go_wp2_with fail
      have hr4 : ∀ cs, (wr.drew.setRow (w.heap.size + 1 + 1) cs).heap[w.heap.size + 1 + 1 + 1 + 1 + 1]? = some (.cells (nat20 r) 58 (0, 0)) := fun cs => (setRow_other _ _ _ _ (by omega)).trans gr
      have h54 : ∀ cs, (wr.drew.setRow (w.heap.size + 1 + 1) cs).heap[w.heap.size + 1 + 1 + 1]? = some (.cells (nat20 fun _ => 0) 58 (0, 0)) := fun cs => (setRow_other _ _ _ _ (by omega)).trans g5
      refine wp_region_any (by kernel_rfl) ?_
      change wpAny _ _ _ _ _ _ _ (World.drew _)
      refine wpAny_ready (rs := [0, 1]) (by kernel_rfl) (by simp) ?_
      refine ready_load rfl rfl 58 _ rfl (w.heap.size + 1 + 1 + 1 + 1) rfl 58 _ (0, 0) _ gq Tryd.underlying58 rfl (by kernel_rfl) ?_ ?_
      · refine wpAny_ready (rs := [1, 2]) (by kernel_rfl) (by simp) ?_
        refine ready_load rfl rfl 58 _ rfl (w.heap.size + 1 + 1 + 1 + 1 + 1) rfl 58 _ (0, 0) _ gr Tryd.underlying58 rfl (by kernel_rfl) ?_ ?_
        · refine wpAny_ready (rs := [2]) (by kernel_rfl) (by simp) ?_
          refine ready_store rfl rfl 58 _ _ rfl (w.heap.size + 1 + 1) _ rfl rfl 58 _ g4 (by kernel_rfl) (by kernel_rfl) (by kernel_rfl) ?_ ?_
          · refine wpAny_ready (rs := [3]) (by kernel_rfl) (by simp) ?_
            refine ready_store rfl rfl 58 _ _ rfl (w.heap.size + 1 + 1 + 1) _ rfl rfl 58 _ (h54 _) (by kernel_rfl) (by kernel_rfl) (by kernel_rfl) ?_ ?_
            · refine wpAny_done (by kernel_rfl) ?_ _
              (simp only [Act.put, List.getElem_toArray, List.getElem_cons_zero, List.getElem_cons_succ]; go_wp2_with fail; refine bodyPost_ret (v := .tuple #[.agg (nat20 q), .agg (nat20 r)]) (ret20two rfl _ _ (w.heap.size + 1 + 1) (w.heap.size + 1 + 1 + 1) q r rfl rfl ((setRow_other _ _ _ _ (by omega)).trans (setRow_heap _ _ _ _ _ _ g4)) (setRow_heap _ _ _ _ _ _ (h54 _))) rfl ⟨q, r, rfl, HAA.out.hq, HAA.out.hr, HV.out.2, HV.out.1, ?_⟩; exact below_setRow (below_setRow HWW.out.drew.bl (by omega) _) (by omega) _)
            · exact AllReady.nil
          · exact AllReady.nil
        · refine ready_store rfl rfl 58 _ _ rfl (w.heap.size + 1 + 1) _ rfl rfl 58 _ g4 (by kernel_rfl) (by kernel_rfl) (by kernel_rfl) ?_ ?_
          · refine wpAny_ready (rs := [1]) (by kernel_rfl) (by simp) ?_
            refine ready_load rfl rfl 58 _ rfl (w.heap.size + 1 + 1 + 1 + 1 + 1) rfl 58 _ (0, 0) _ (hr4 _) Tryd.underlying58 rfl (by kernel_rfl) ?_ ?_
            · refine wpAny_ready (rs := [3]) (by kernel_rfl) (by simp) ?_
              refine ready_store rfl rfl 58 _ _ rfl (w.heap.size + 1 + 1 + 1) _ rfl rfl 58 _ (h54 _) (by kernel_rfl) (by kernel_rfl) (by kernel_rfl) ?_ ?_
              · refine wpAny_done (by kernel_rfl) ?_ _
                (simp only [Act.put, List.getElem_toArray, List.getElem_cons_zero, List.getElem_cons_succ]; go_wp2_with fail; refine bodyPost_ret (v := .tuple #[.agg (nat20 q), .agg (nat20 r)]) (ret20two rfl _ _ (w.heap.size + 1 + 1) (w.heap.size + 1 + 1 + 1) q r rfl rfl ((setRow_other _ _ _ _ (by omega)).trans (setRow_heap _ _ _ _ _ _ g4)) (setRow_heap _ _ _ _ _ _ (h54 _))) rfl ⟨q, r, rfl, HAA.out.hq, HAA.out.hr, HV.out.2, HV.out.1, ?_⟩; exact below_setRow (below_setRow HWW.out.drew.bl (by omega) _) (by omega) _)
              · exact AllReady.nil
            · exact AllReady.nil
          · exact AllReady.nil
      · refine ready_load rfl rfl 58 _ rfl (w.heap.size + 1 + 1 + 1 + 1 + 1) rfl 58 _ (0, 0) _ gr Tryd.underlying58 rfl (by kernel_rfl) ?_ ?_
        · refine wpAny_ready (rs := [0]) (by kernel_rfl) (by simp) ?_
          refine ready_load rfl rfl 58 _ rfl (w.heap.size + 1 + 1 + 1 + 1) rfl 58 _ (0, 0) _ gq Tryd.underlying58 rfl (by kernel_rfl) ?_ ?_
          · refine wpAny_ready (rs := [2]) (by kernel_rfl) (by simp) ?_
            refine ready_store rfl rfl 58 _ _ rfl (w.heap.size + 1 + 1) _ rfl rfl 58 _ g4 (by kernel_rfl) (by kernel_rfl) (by kernel_rfl) ?_ ?_
            · refine wpAny_ready (rs := [3]) (by kernel_rfl) (by simp) ?_
              refine ready_store rfl rfl 58 _ _ rfl (w.heap.size + 1 + 1 + 1) _ rfl rfl 58 _ (h54 _) (by kernel_rfl) (by kernel_rfl) (by kernel_rfl) ?_ ?_
              · refine wpAny_done (by kernel_rfl) ?_ _
                (simp only [Act.put, List.getElem_toArray, List.getElem_cons_zero, List.getElem_cons_succ]; go_wp2_with fail; refine bodyPost_ret (v := .tuple #[.agg (nat20 q), .agg (nat20 r)]) (ret20two rfl _ _ (w.heap.size + 1 + 1) (w.heap.size + 1 + 1 + 1) q r rfl rfl ((setRow_other _ _ _ _ (by omega)).trans (setRow_heap _ _ _ _ _ _ g4)) (setRow_heap _ _ _ _ _ _ (h54 _))) rfl ⟨q, r, rfl, HAA.out.hq, HAA.out.hr, HV.out.2, HV.out.1, ?_⟩; exact below_setRow (below_setRow HWW.out.drew.bl (by omega) _) (by omega) _)
              · exact AllReady.nil
            · exact AllReady.nil
          · exact AllReady.nil
        · exact AllReady.nil
    · obtain ⟨j, t, hj, ht, hnj⟩ : ∃ j t : Nat, j < 20 ∧ t < 16 ∧ n = 16 * j + t + 1 := ⟨(n - 1) / 16, (n - 1) % 16, by omega, by omega, by omega⟩
      obtain ⟨z, hz0⟩ : ∃ z : Int, (n : Int) - 1 = z := ⟨_, rfl⟩
      have z1 : 0 ≤ z := by omega
      have z2 : z ≤ 319 := by omega
      have zj : z / 16 = (j : Int) := by omega
      have zt : z % 16 = (t : Int) := by omega
      have j20 : (j : Int) < 20 := by omega
      have t16 : (t : Int) < 16 := by omega
      have HZ := Lib.hid hz0
      have HN := Lib.hid hnj
      rw [hz0]
      have W0 := Lib.hid HW
      have A0 := Lib.hid HA
      have g7 := row_of _ _ _ HW.rr
      clear HW HA hnj hz0 hz
      go_upto_region 6 with (first | (with_reducible refine wpList_load_row rfl 58 _ rfl (w.heap.size + 1 + 1 + 1 + 1 + 1) rfl 58 _ (0, 0) _ g7 Tryd.underlying58 rfl (by kernel_rfl) ?_) | (go_at_call 48; refine (plus_any _ _ _ A0.out.hr A0.out.hr).mono ?_; rintro e w1 ⟨rfl, hb1⟩; have W1 := Lib.hid (W0.out.keep hb1); have s7 := row_of _ _ _ W1.out.rr) | (with_reducible refine wpList_store_row rfl 58 _ _ rfl (w.heap.size + 1 + 1 + 1 + 1 + 1) _ rfl rfl 58 _ s7 (by kernel_rfl) (by kernel_rfl) (by kernel_rfl) ?_))
      obtain ⟨x, hx⟩ : ∃ x, a j = x := ⟨_, rfl⟩
      have hxb := ha j hj
      rw [hx] at hxb
      obtain ⟨x0, x1⟩ := hxb
      obtain ⟨p, hp⟩ : ∃ p, (2 : Int) ^ t = p := ⟨_, rfl⟩
      have pb := pow_t t ht
      rw [hp] at pb
      obtain ⟨p0, p1⟩ := pb
      obtain ⟨bt, hbt⟩ : ∃ y, x / p % 2 = y := ⟨_, rfl⟩
      have bt0 : 0 ≤ bt := by omega
      have bt1 : bt ≤ 1 := by omega
      have xp0 : 0 ≤ x / p := Int.ediv_nonneg x0 (by omega)
      have xp1 : x / p ≤ x := Int.ediv_le_self _ x0
      have hbit : bits .and .u64 (x / p) 1 = bt := by rw [← hbt]; exact bits_mask .u64 64 (by decide) (fun n h0 h1 => by rw [IntKind.wrap_u64]; omega) 1 (by decide) _ (by omega) (by omega)
      obtain ⟨d, hd⟩ : ∃ d, pd r r 0 = d := ⟨_, rfl⟩
      have d0 : 0 ≤ d ∧ d ≤ 65534 := by
        have := A0.out.hr 0 (by omega)
        rw [← hd]; simp [pd, pc]; omega
      obtain ⟨d00, d01⟩ := d0
      have W2 := Lib.hid (W1.out.setR (pd r r))
      generalize w1.setRow (w.heap.size + 1 + 1 + 1 + 1 + 1) (nat20 (pd r r)) = w2 at W2 ⊢
      have ca := W2.out.ra.cell hj
      have cr := W2.out.rr.cell (i := 0) (by omega)
      have fr := W2.out.rr.frozen 0
      simp only [dig, hx, hd] at ca cr
      have HX := Lib.hid (And.intro hx (And.intro hp (And.intro hbt hd)))
      clear hx hbt hd xp0 xp1 g7 s7
      have e1 : IntKind.i64.wrap (z.tdiv 16) = (j : Int) := by rw [Int.tdiv_eq_ediv_of_nonneg z1, zj]; exact IntWalk.i64_in _ (by omega)
      have e2 : IntKind.i64.wrap (z.tmod 16) = (t : Int) := by rw [Int.tmod_eq_emod_of_nonneg z1, zt]; exact IntWalk.i64_in _ (by omega)
      have e3 : z.tmod 16 = (t : Int) := by rw [Int.tmod_eq_emod_of_nonneg z1, zt]
      have e4 : IntKind.u64.wrap (d + bt) = d + bt := IntWalk.u64_in _ (by omega)
      have e5 : IntKind.u64.wrap (t : Int) = (t : Int) := IntWalk.u64_in _ (by omega)
      have e6 : (0 : Int) ≤ j := by omega
      simp only [Act.put]
      go_region
      have W3 := Lib.hid ((W2.out.putR 0 (d + bt)).drew)
      generalize (w2.setCell { block := w.heap.size + 1 + 1 + 1 + 1 + 1, off := 0 } (Value.int IntKind.u64 (d + bt))).drew = w3 at W3 ⊢
      clear ca cr fr W2 W1 W0 hb1 e1 e2 e3 e4 e5 hbit
      -- the rest, doubled, with the next bit
      obtain ⟨f3, hf3⟩ : ∃ f, upd (pd r r) 0 (d + bt) = f := ⟨_, rfl⟩
      rw [hf3] at W3
      have hV := over_vals a b r ha A0.out.hr A0.out.vr B0 B1 j t hj ht (by rw [← HN.out]) hf3 HX.out.1 HX.out.2.1 HX.out.2.2.1 HX.out.2.2.2
      obtain ⟨f3in, f3val⟩ := hV
      have F3 := Lib.hid f3val
      clear hf3 f3val
      have g3r := row_of _ _ _ W3.out.rr
      have g3b := row_of _ _ _ W3.out.rb
      by_cases hge : val b 20 ≤ val f3 20
      · have hc : 0 ≤ cmpV f3 b := by unfold cmpV; rw [if_neg (by omega)]; split <;> omega
        have HGE := Lib.hid hge
        clear hge
        go_upto_region 9 with (first | (with_reducible refine wpList_load_row rfl 58 _ rfl (w.heap.size + 1 + 1 + 1 + 1 + 1) rfl 58 _ (0, 0) _ g3r Tryd.underlying58 rfl (by kernel_rfl) ?_) | (with_reducible refine wpList_load_row rfl 58 _ rfl (w.heap.size + 1) rfl 58 _ (0, 0) _ g3b Tryd.underlying58 rfl (by kernel_rfl) ?_) | (go_at_call 41; refine (cmp_any _ _ _ f3in hb).mono ?_; rintro e w4 ⟨rfl, hb4⟩; have W4 := Lib.hid (W3.out.keep hb4); have g4r := row_of _ _ _ W4.out.rr; have g4b := row_of _ _ _ W4.out.rb; clear g3r g3b) | (with_reducible refine wpList_load_row rfl 58 _ rfl (w.heap.size + 1 + 1 + 1 + 1 + 1) rfl 58 _ (0, 0) _ g4r Tryd.underlying58 rfl (by kernel_rfl) ?_) | (with_reducible refine wpList_load_row rfl 58 _ rfl (w.heap.size + 1) rfl 58 _ (0, 0) _ g4b Tryd.underlying58 rfl (by kernel_rfl) ?_) | (go_at_call 54; refine (minus_any _ _ _ f3in hb).mono ?_; rintro e w5 ⟨rfl, hb5⟩; have W5 := Lib.hid (W4.out.keep hb5); have g5r := row_of _ _ _ W5.out.rr; clear g4r g4b) | (with_reducible refine wpList_store_row rfl 58 _ _ rfl (w.heap.size + 1 + 1 + 1 + 1 + 1) _ rfl rfl 58 _ g5r (by kernel_rfl) (by kernel_rfl) (by kernel_rfl) ?_))
        have W6 := Lib.hid (W5.out.setR (md f3 b))
        generalize w5.setRow (w.heap.size + 1 + 1 + 1 + 1 + 1) (nat20 (md f3 b)) = w6 at W6 ⊢
        have hqb := A0.out.hq j hj
        have hqr := mod_room (q j) t ht hqb.1 hqb.2 (Low.at hj ht (by rw [← HN.out]; exact A0.out.low))
        obtain ⟨y, hy⟩ : ∃ y, q j = y := ⟨_, rfl⟩
        have cq := W6.out.rq.cell hj
        have fq := W6.out.rq.frozen j
        simp only [dig, hy] at cq
        rw [hy, hp] at hqr
        rw [hy] at hqb
        obtain ⟨y0, y1⟩ := hqb
        have y2 := hqr.1
        have HY := Lib.hid hy
        clear hqr hy g5r
        go_wp2
        refine ⟨⟨16 * j + t, upd q j (y + p), md f3 b, by omega, ?_, W6.out.putQ j (y + p), OverAt.yes A0.out HN.out hb f3in F3.out HGE.out B0 hj ht HY.out hp ⟨by omega, y2⟩⟩, by simp [intOf]; omega⟩
        congr 1
        have := HZ.out; have := HN.out; omega
      · have hc : cmpV f3 b < 0 := by unfold cmpV; rw [if_pos (by omega)]; omega
        have HGE := Lib.hid hge
        clear hge
        go_wp2_with (first | (with_reducible refine wpList_load_row rfl 58 _ rfl (w.heap.size + 1 + 1 + 1 + 1 + 1) rfl 58 _ (0, 0) _ g3r Tryd.underlying58 rfl (by kernel_rfl) ?_) | (with_reducible refine wpList_load_row rfl 58 _ rfl (w.heap.size + 1) rfl 58 _ (0, 0) _ g3b Tryd.underlying58 rfl (by kernel_rfl) ?_) | (go_at_call 41; refine (cmp_any _ _ _ f3in hb).mono ?_; rintro e w4 ⟨rfl, hb4⟩; have W4 := Lib.hid (W3.out.keep hb4); clear g3r g3b))
        go_roundw
        case rel =>
          refine ⟨16 * j + t, q, f3, by omega, ?_, W4.out, OverAt.no A0.out HN.out f3in F3.out (by have := HGE.out; omega) hj ht B0 (val_bd 20 ha).1⟩
          congr 1
          have := HZ.out; have := HN.out; omega
        case measure => simp [intOf]; omega

end Go.Proofs.YtefkabkncmflpaaDoor
