/-
  Walks over twenty digits: the decimal numeral.
-/
import Derived.Test.YtefkabkncmflpaaDoorWkO
import Derived.Lib.ItoaNum
import Derived.Deep.RegionWith
import Derived.OrdersHeld
namespace Go.Proofs.YtefkabkncmflpaaDoor
open Go.RowKit

def strLen : Value → Nat | .string s => s.data.size | _ => 0

/-- What stands in the block of the number that is being told. -/
structure DigRows (w wr : World) (m : Nat → Int) : Prop where
  rm : wr.rowIs w.heap.size 58 20 (dig m)
  bl : Below w.heap.size w wr
theorem DigRows.keep {w wr w' : World} {m : Nat → Int} (h : DigRows w wr m) (hb : Below wr.heap.size wr w') : DigRows w w' m :=
  ⟨row_kept h.rm hb, h.bl.trans (hb.mono h.bl.size)⟩
theorem DigRows.drewN {w wr : World} {m : Nat → Int} (h : DigRows w wr m) (n : Nat) : DigRows w (wr.drewN n) m := h.keep (drewN_below _ _ _)
theorem DigRows.set {w wr : World} {m : Nat → Int} (h : DigRows w wr m) (f : Nat → Int) : DigRows w (wr.setRow w.heap.size (nat20 f)) f :=
  ⟨row_setRow f (row_of _ _ _ h.rm), below_setRow h.bl (by omega) _⟩

/-- What has been told: all but the digits of what is left. -/
def DigAt (N : Nat) (m : Nat → Int) (s : List UInt8) : Prop :=
  InR m ∧ ((s = [] ∧ val m 20 = N) ∨ (s ≠ [] ∧ 0 < val m 20 ∧ Lib.decDigits (val m 20).toNat ++ s = Lib.decDigits N) ∨ (s ≠ [] ∧ val m 20 = 0 ∧ s = Lib.decDigits N))

theorem digit_lt (r : Nat → Int) (hr : InR r) (h : val r 20 < 10) : r 0 = val r 20 := by
  obtain ⟨R, hR⟩ := val_tail r 0 (by omega)
  rw [show val r 0 = 0 from rfl, Int.pow_zero, Int.mul_one, Int.zero_add] at hR
  have h0 := hr 0 (by omega)
  have hv := val_bd 20 hr
  omega

theorem DigAt.next {N : Nat} {m q r : Nat → Int} {s : List UInt8} (h : DigAt N m s) (hgo : s = [] ∨ 0 < val m 20) (hq : InR q) (hr : InR r) (vq : val q 20 = val m 20 / 10) (vr : val r 20 = val m 20 % 10) :
    DigAt N q (UInt8.ofNat (48 + (r 0).toNat) :: s) := by
  obtain ⟨hm, h⟩ := h
  have hv := val_bd 20 hm
  have hd : r 0 = val m 20 % 10 := by rw [← vr]; exact digit_lt r hr (by omega)
  obtain ⟨u, hu⟩ : ∃ u : Nat, val m 20 = u := ⟨(val m 20).toNat, by omega⟩
  have hr0 : (r 0).toNat = u % 10 := by omega
  have hqv : val q 20 = ((u / 10 : Nat) : Int) := by omega
  have e : Lib.decDigits u ++ s = Lib.decDigits N := by
    rcases h with ⟨rfl, h⟩ | ⟨_, _, h⟩ | ⟨h1, h2, _⟩
    · rw [List.append_nil, show u = N by omega]
    · rw [← h, hu]; rfl
    · exfalso
      rcases hgo with h' | h'
      · exact h1 h'
      · omega
  refine ⟨hq, ?_⟩
  rw [hr0]
  by_cases hs : u < 10
  · refine Or.inr (Or.inr ⟨by simp, by omega, ?_⟩)
    rw [← e, Lib.decDigits_one hs, Nat.mod_eq_of_lt hs]
    rfl
  · refine Or.inr (Or.inl ⟨by simp, by omega, ?_⟩)
    rw [← e, hqv, Int.toNat_natCast]
    conv => rhs; rw [Lib.decDigits, dif_neg hs]
    simp

theorem DigAt.short {N : Nat} {m : Nat → Int} {s : List UInt8} (h : DigAt N m s) (hgo : s = [] ∨ 0 < val m 20) : s.length < Lib.nDigits N := by
  rw [← Lib.decDigits_length]
  obtain ⟨hm, ⟨rfl, h⟩ | ⟨_, _, h⟩ | ⟨h1, h2, _⟩⟩ := h
  · rw [Lib.decDigits_length]; exact Lib.nDigits_pos N
  · rw [← h, List.length_append, Lib.decDigits_length]
    have := Lib.nDigits_pos (val m 20).toNat
    omega
  · exfalso
    rcases hgo with h' | h'
    · exact h1 h'
    · omega

theorem DigAt.done {N : Nat} {m : Nat → Int} {s : List UInt8} (h : DigAt N m s) (hgo : ¬ (s = [] ∨ 0 < val m 20)) : s = Lib.decDigits N := by
  obtain ⟨hm, ⟨rfl, h⟩ | ⟨_, h', h⟩ | ⟨h1, h2, h3⟩⟩ := h
  · exact absurd (Or.inl rfl) hgo
  · exact absurd (Or.inr h') hgo
  · exact h3

section
variable {P : Program} {ops : Array Oper} {o : Oper} {a : Act} {w : World} {Q : Exit → Act → World → Prop} {rest : List Oper}
/-- A whole row read by an operation that is wanted only where its guard says so, and is wanted here. -/
theorem wpList_load_row_if (hw : Region.wanted o (yielded ops a.tmps) = true) (ty : TypeId) (x : Operand) (ho : o.op = .load ty x)
    (g : Nat) (hx : a.eval x = .pointer (some ⟨g, 0, none⟩)) (t : TypeId) (cs : Array Value) (fr : Nat × Nat) (d : TypeDesc) (hg : w.heap[g]? = some (.cells cs t fr))
    (hu : P.underlying ty = some d) (hd : (match d with | .struct _ | .array _ _ => true | _ => false) = true) (hi : (P.info? ty).map (·.size) = some cs.size)
    (h : wpList P ops Q rest (a.put o.dst (.agg cs)) w) : wpList P ops Q (o :: rest) a w :=
  wpList_step fun K hK => by
    rw [if_pos hw]
    exact wp_load_row ty x ho g hx t cs fr d hg hu hd hi (hK _ _ h)
end

/-- The quotient's and the rest's blocks beside the number's. -/
structure DigTwo (w wr : World) (m q r : Nat → Int) (g4 g5 : Nat) : Prop where
  rm : wr.rowIs w.heap.size 58 20 (dig m)
  rq : wr.rowIs g4 58 20 (dig q)
  rr : wr.rowIs g5 58 20 (dig r)
  nn : g4 ≠ g5
  h4 : w.heap.size < g4
  h5 : w.heap.size < g5
  bl : Below w.heap.size w wr
theorem DigTwo.set4 {w wr : World} {m q r : Nat → Int} {g4 g5 : Nat} (h : DigTwo w wr m q r g4 g5) (f : Nat → Int) : DigTwo w (wr.setRow g4 (nat20 f)) m f r g4 g5 :=
  have h4 := h.h4
  have nn := h.nn
  ⟨row_setRow_other _ h.rm (by omega), row_setRow f (row_of _ _ _ h.rq), row_setRow_other _ h.rr (by omega), nn, h4, h.h5, below_setRow h.bl (by omega) _⟩
theorem DigTwo.set5 {w wr : World} {m q r : Nat → Int} {g4 g5 : Nat} (h : DigTwo w wr m q r g4 g5) (f : Nat → Int) : DigTwo w (wr.setRow g5 (nat20 f)) m q f g4 g5 :=
  have h5 := h.h5
  have nn := h.nn
  ⟨row_setRow_other _ h.rm (by omega), row_setRow_other _ h.rq (by omega), row_setRow f (row_of _ _ _ h.rr), nn, h.h4, h5, below_setRow h.bl (by omega) _⟩
theorem DigTwo.keep {w wr w' : World} {m q r : Nat → Int} {g4 g5 : Nat} (h : DigTwo w wr m q r g4 g5) (hb : Below wr.heap.size wr w') : DigTwo w w' m q r g4 g5 :=
  ⟨row_kept h.rm hb, row_kept h.rq hb, row_kept h.rr hb, h.nn, h.h4, h.h5, h.bl.trans (hb.mono h.bl.size)⟩
theorem DigTwo.setM {w wr : World} {m q r : Nat → Int} {g4 g5 : Nat} (h : DigTwo w wr m q r g4 g5) (f : Nat → Int) : DigRows w (wr.setRow w.heap.size (nat20 f)) f :=
  ⟨row_setRow f (row_of _ _ _ h.rm), below_setRow h.bl (by omega) _⟩

section
variable {P : Program} {md : Region.Mode} {ops : Array Oper} {o : Oper} {a : Act} {w : World} {Q : Exit → Act → World → Prop} {S : World → Prop} {fuel i : Nat} {listed : Array Bool} {rs : List Nat}
/-- Whichever of these operations comes next, what is held is held behind it. -/
def AllHeld (P : Program) (md : Region.Mode) (ops : Array Oper) (Q : Exit → Act → World → Prop) (S : World → Prop) (fuel : Nat) (listed : Array Bool) (a : Act) (w : World) (rs : List Nat) : Prop :=
  ∀ i ∈ rs, wpOp P ops Q i (fun a' w' => S w' ∧ wpAnyH P md ops Q S fuel (listed.setIfInBounds i true) a' w') a w
theorem AllHeld.nil : AllHeld P md ops Q S fuel listed a w [] := fun _ h => by cases h
theorem AllHeld.cons (ho : ops[i]? = some o)
    (h : ∀ K' : Act → World → Prop, (∀ a w, S w → wpAnyH P md ops Q S fuel (listed.setIfInBounds i true) a w → K' a w) → if Region.wanted o (yielded ops a.tmps) = true then Oper.wp P o a w K' Q else K' (a.put o.dst undef) w)
    (hs : AllHeld P md ops Q S fuel listed a w rs) : AllHeld P md ops Q S fuel listed a w (i :: rs) := fun j hj => by
  rcases List.mem_cons.1 hj with rfl | hj
  · exact wpOp_step ho fun K' hK => h K' fun a w h1 h2 => hK a w ⟨h1, h2⟩
  · exact hs j hj
theorem held_store (ho : ops[i]? = some o) (hgd : o.guard = none) (ty : TypeId) (x y : Operand) (hop : o.op = .store ty x y)
    (g : Nat) (cells : Array Value) (hx : a.eval x = .pointer (some ⟨g, 0, none⟩)) (hy : a.eval y = .agg cells)
    (t : TypeId) (old : Array Value) (hg : w.heap[g]? = some (.cells old t (0, 0))) (hi : (P.info? ty).map (·.size) = some cells.size)
    (hold : old.size = cells.size) (h1 : cells.all (·.oneCell') = true) (hS : S (w.setRow g cells))
    (h : wpAnyH P md ops Q S fuel (listed.setIfInBounds i true) (a.put o.dst undef) (w.setRow g cells)) (hs : AllHeld P md ops Q S fuel listed a w rs) : AllHeld P md ops Q S fuel listed a w (i :: rs) :=
  AllHeld.cons ho (fun K hK => by
    have hw : Region.wanted o (yielded ops a.tmps) = true := by simp [Region.wanted, hgd]
    rw [if_pos hw]
    exact wp_store_row ty x y hop g cells hx hy t old hg hi hold h1 (hK _ _ hS h)) hs
/-- A whole row is read in every world that has it. -/
theorem held_load {v : Array Value} (hgd : o.guard = none) (ty : TypeId) (x : Operand) (hop : o.op = .load ty x)
    (g : Nat) (hx : a.eval x = .pointer (some ⟨g, 0, none⟩)) (t : TypeId) (fr : Nat × Nat) (d : TypeDesc)
    (hu : P.underlying ty = some d) (hd : (match d with | .struct _ | .array _ _ => true | _ => false) = true) (hi : (P.info? ty).map (·.size) = some v.size) :
    YieldsIf P ops (fun w' => w'.heap[g]? = some (.cells v t fr)) o (.agg v) a :=
  Or.inl ⟨by simp [Region.wanted, hgd], fun w hg => by
    unfold execOp
    simp only [hop, hx, Instr.loadAt, Instr.sureAddr, Sem.run_bind, Sem.run_pure, Result.andThen_ok, run_loadVar_row w g t ty v fr d hg hu hd hi]⟩
end

theorem nDigits_le : ∀ (u k : Nat), 1 ≤ k → u < 10 ^ k → Lib.nDigits u ≤ k
  | u, 0, h, _ => absurd h (by omega)
  | u, 1, _, h => by rw [Lib.nDigits_small (by simpa using h)]; omega
  | u, k + 2, _, h => by
    by_cases hu : u < 10
    · rw [Lib.nDigits_small hu]; omega
    · rw [Lib.nDigits_big hu]
      have := nDigits_le (u / 10) (k + 1) (by omega) (by rw [Nat.pow_succ] at h; omega)
      omega
theorem small_nat {x : Int} (h : x < 65536 ^ 20) : x.toNat < 10 ^ 97 := by
  have e : x.toNat < 65536 ^ 20 := by
    have h2 : ((65536 ^ 20 : Nat) : Int) = 65536 ^ 20 := by decide
    omega
  exact Nat.lt_trans e (by decide)
theorem ten_pos : 0 < val (ofD 10) 20 := by rw [ofD_val 10 (by decide) (by decide)]; decide
theorem ten_two : 2 * val (ofD 10) 20 ≤ 65536 ^ 20 := by rw [ofD_val 10 (by decide) (by decide)]; decide

set_option maxRecDepth 100000 in
set_option maxHeartbeats 4000000 in
theorem digits_any (n : Nat → Int) (w : World) (hn : InR n) :
    Calls Tryd.prog 50 #[.agg (nat20 n)] w fun e w' => e = .returned (.string ⟨(Lib.decDigits (val n 20).toNat).toArray⟩) ∧ Below w.heap.size w w' := by
  have hv := val_bd 20 hn
  go_enter Tryd.func50, Tryd.ntmps50
  go_wp2_with fail
  go_loopw [3] (fun t3 wr => ∃ (m : Nat → Int) (s : List UInt8), t3 = .string ⟨s.toArray⟩ ∧ DigRows w wr m ∧ DigAt (val n 20).toNat m s) (fun t3 _ => Lib.nDigits (val n 20).toNat - strLen t3)
  case atStart =>
    exact ⟨n, [], rfl, ⟨row_new w n, (Below.refl _ _).alloc (Nat.le_refl _) _⟩, hn, Or.inl ⟨rfl, by omega⟩⟩
  case round =>
    obtain ⟨m, s, rfl, HW, HA⟩ := hrel
    have gm := row_of _ _ _ HW.rm
    have hmr := HA.1
    have D0 := Lib.hid HW
    have A0 := Lib.hid HA
    clear HW HA
    go_upto_region 2 with fail
    go_cut [13] from 6 to 13 (fun t13 wx => t13 = .bool (decide (s = [] ∨ 0 < val m 20)) ∧ Hid (DigRows w wx m))
    case first =>
      match s with
      | [] =>
        go_wp2_with fail
        go_meet
        exact ⟨by simp, D0⟩
      | c :: s =>
        go_wp2_with (first | (with_reducible refine wpList_load_row_if (by with_unfolding_all rfl) 58 _ rfl w.heap.size rfl 58 _ (0, 0) _ gm Tryd.underlying58 rfl (by kernel_rfl) ?_) | (go_at_call 41; rw [zeros20]; refine (cmp_any _ _ _ hmr (fun _ _ => by simp)).mono ?_; rintro e w1 ⟨rfl, hb1⟩))
        all_goals go_meet
        all_goals
          have z := val_zero 20
          refine ⟨?_, Lib.hid (D0.out.keep hb1)⟩
          congr 1
          unfold cmpV
          rw [z]
          rw [if_neg (by have := (val_bd 20 hmr).1; omega)]
          by_cases h0 : 0 < val m 20
          · rw [if_pos h0]; simp [h0]
          · rw [if_neg h0]; simp [h0]
    case rest =>
      obtain ⟨rfl, HD⟩ := hcut
      by_cases hgo : s = [] ∨ 0 < val m 20
      · rw [decide_eq_true hgo]
        have GO := Lib.hid hgo
        clear hgo gm D0
        go_upto_region 3 with fail
        go_cut [4, 5] from 14 to 19 (fun t4 t5 wx => ∃ (g4 g5 : Nat) (q r : Nat → Int), t4 = .pointer (some ⟨g4, 0, none⟩) ∧ t5 = .pointer (some ⟨g5, 0, none⟩) ∧ Hid (DigTwo w wx m q r g4 g5) ∧ InR q ∧ InR r ∧ Hid (val q 20 = val m 20 / val (ofD 10) 20) ∧ Hid (val r 20 = val m 20 % val (ofD 10) 20))
        case first =>
          refine wp_region_held (S := fun w' => w'.heap[w.heap.size]? = some (.cells (nat20 m) 58 (0, 0))) (by kernel_rfl) ?_
          change wpAnyH _ _ _ _ _ _ _ _ (World.drew _)
          have D0 : Hid (DigRows w wc.drew m) := Lib.hid (HD.out.drewN 1)
          generalize wc.drew = w0 at D0 ⊢
          refine wpAnyH_take (i := 0) (v := .agg (nat20 m)) rfl (by kernel_rfl) (by kernel_rfl) (by kernel_rfl) (fun _ _ _ h => h) (held_load rfl 58 _ rfl w.heap.size rfl 58 (0, 0) _ Tryd.underlying58 rfl (by kernel_rfl)) (row_of _ _ _ D0.out.rm) ?_
          refine wpAnyH_all (rs := [1, 6, 7]) (by kernel_rfl) (by simp) ?_
          refine AllHeld.cons rfl (fun K hK => ?_) ?_
          · go_simp
            refine (of_any 10 _ (by decide) (by decide)).mono ?_
            rintro e w1 ⟨rfl, hb1⟩
            have D1 := Lib.hid (D0.out.keep hb1)
            refine hK _ _ (row_of _ _ _ D1.out.rm) ?_
            clear hK K hb1
            refine wpAnyH_all (rs := [2, 6, 7]) (by kernel_rfl) (by simp) ?_
            refine AllHeld.cons rfl (fun K hK => ?_) ?_
            · go_simp
              refine (over20_any _ _ _ hmr (ofD_in 10) ten_pos ten_two).mono ?_
              rintro e w2 ⟨q, r, rfl, hqq, hrr, vq, vr, hb2⟩
              have D2 := Lib.hid (D1.out.keep hb2)
              have VQ := Lib.hid vq
              have VR := Lib.hid vr
              clear vq vr
              refine hK _ _ (row_of _ _ _ D2.out.rm) ?_
              clear hK K hb2
              refine wpAnyH_take (i := 3) (v := .tuple #[.agg (nat20 q), .agg (nat20 r)]) rfl (by kernel_rfl) (by kernel_rfl) (by kernel_rfl) (fun _ _ _ h => h) (Or.inl ⟨by rfl, fun _ _ => by go_simp⟩) (row_of _ _ _ D2.out.rm) ?_
              refine wpAnyH_take (i := 4) (v := .agg (nat20 q)) rfl (by kernel_rfl) (by kernel_rfl) (by kernel_rfl) (fun _ _ _ h => h) (Or.inl ⟨by rfl, fun _ _ => by go_simp⟩) (row_of _ _ _ D2.out.rm) ?_
              refine wpAnyH_take (i := 5) (v := .agg (nat20 r)) rfl (by kernel_rfl) (by kernel_rfl) (by kernel_rfl) (fun _ _ _ h => h) (Or.inl ⟨by rfl, fun _ _ => by go_simp⟩) (row_of _ _ _ D2.out.rm) ?_
              refine wpAnyH_all (rs := [6, 7]) (by kernel_rfl) (by simp) ?_
              refine AllHeld.cons rfl (fun K hK => ?_) ?_
              · go_simp
                rw [zeros20]
                have D3 := Lib.hid (D2.out.keep ((Below.refl _ _).alloc (Nat.le_refl _) (.cells (nat20 fun _ => 0) 58)))
                have Z4 := Lib.hid (row_new w2 fun _ => 0)
                have L4 := Lib.hid D2.out.rm.lt
                refine hK _ _ (row_of _ _ _ D3.out.rm) ?_
                clear hK K
                generalize w2.alloc (.cells (nat20 fun _ => 0) 58) = w3 at D3 Z4 ⊢
                generalize w2.heap.size = g4 at Z4 L4 ⊢
                refine wpAnyH_all (rs := [7]) (by kernel_rfl) (by simp) ?_
                refine AllHeld.cons rfl (fun K hK => ?_) ?_
                · go_simp
                  rw [zeros20]
                  have YY := Lib.hid Z4.out.lt
                  have D4 := Lib.hid (D3.out.keep ((Below.refl _ _).alloc (Nat.le_refl _) (.cells (nat20 fun _ => 0) 58)))
                  have Z4 := Lib.hid (Z4.out.alloc (.cells (nat20 fun _ => 0) 58))
                  have Z5 := Lib.hid (row_new w3 fun _ => 0)
                  have L5 := Lib.hid D3.out.rm.lt
                  refine hK _ _ (row_of _ _ _ D4.out.rm) ?_
                  clear hK K
                  generalize w3.alloc (.cells (nat20 fun _ => 0) 58) = w4 at D4 Z5 Z4 ⊢
                  generalize w3.heap.size = g5 at Z5 L5 YY ⊢
                  have NN : Hid (g4 ≠ g5) := Lib.hid (show g4 ≠ g5 by have := YY.out; omega)
                  refine wpAnyH_all (rs := [8]) (by kernel_rfl) (by simp) ?_
                  have T0 := Lib.hid (DigTwo.mk D4.out.rm Z4.out Z5.out NN.out L4.out L5.out D4.out.bl)
                  have gg := row_of _ _ _ T0.out.rq
                  refine held_store rfl rfl 58 _ _ rfl g4 _ rfl rfl 58 _ gg (by kernel_rfl) (by kernel_rfl) (by kernel_rfl) (row_of _ _ _ (T0.out.set4 q).rm) ?_ ?_
                  · have T1 := Lib.hid (T0.out.set4 q)
                    generalize w4.setRow g4 (nat20 q) = wy at T1 ⊢
                    clear gg
                    refine wpAnyH_all (rs := [9]) (by kernel_rfl) (by simp) ?_
                    have gg := row_of _ _ _ T1.out.rr
                    refine held_store rfl rfl 58 _ _ rfl g5 _ rfl rfl 58 _ gg (by kernel_rfl) (by kernel_rfl) (by kernel_rfl) (row_of _ _ _ (T1.out.set5 r).rm) ?_ ?_
                    · have T2 := Lib.hid (T1.out.set5 r)
                      generalize wy.setRow g5 (nat20 r) = wz at T2 ⊢
                      clear gg
                      refine wpAnyH_done (by kernel_rfl) ?_ _
                      simp only [Act.put, List.setIfInBounds_toArray]
                      go_wp2_with fail
                      go_meet
                      exact ⟨g4, g5, q, r, rfl, rfl, T2, hqq, hrr, VQ, VR⟩
                    · exact AllHeld.nil
                  · exact AllHeld.nil
                · exact AllHeld.nil
              · refine AllHeld.cons rfl (fun K hK => ?_) ?_
                · go_simp
                  rw [zeros20]
                  have D3 := Lib.hid (D2.out.keep ((Below.refl _ _).alloc (Nat.le_refl _) (.cells (nat20 fun _ => 0) 58)))
                  have Z5 := Lib.hid (row_new w2 fun _ => 0)
                  have L5 := Lib.hid D2.out.rm.lt
                  refine hK _ _ (row_of _ _ _ D3.out.rm) ?_
                  clear hK K
                  generalize w2.alloc (.cells (nat20 fun _ => 0) 58) = w3 at D3 Z5 ⊢
                  generalize w2.heap.size = g5 at Z5 L5 ⊢
                  refine wpAnyH_all (rs := [6]) (by kernel_rfl) (by simp) ?_
                  refine AllHeld.cons rfl (fun K hK => ?_) ?_
                  · go_simp
                    rw [zeros20]
                    have YY := Lib.hid Z5.out.lt
                    have D4 := Lib.hid (D3.out.keep ((Below.refl _ _).alloc (Nat.le_refl _) (.cells (nat20 fun _ => 0) 58)))
                    have Z5 := Lib.hid (Z5.out.alloc (.cells (nat20 fun _ => 0) 58))
                    have Z4 := Lib.hid (row_new w3 fun _ => 0)
                    have L4 := Lib.hid D3.out.rm.lt
                    refine hK _ _ (row_of _ _ _ D4.out.rm) ?_
                    clear hK K
                    generalize w3.alloc (.cells (nat20 fun _ => 0) 58) = w4 at D4 Z4 Z5 ⊢
                    generalize w3.heap.size = g4 at Z4 L4 YY ⊢
                    have NN : Hid (g4 ≠ g5) := Lib.hid (show g4 ≠ g5 by have := YY.out; omega)
                    refine wpAnyH_all (rs := [8]) (by kernel_rfl) (by simp) ?_
                    have T0 := Lib.hid (DigTwo.mk D4.out.rm Z4.out Z5.out NN.out L4.out L5.out D4.out.bl)
                    have gg := row_of _ _ _ T0.out.rq
                    refine held_store rfl rfl 58 _ _ rfl g4 _ rfl rfl 58 _ gg (by kernel_rfl) (by kernel_rfl) (by kernel_rfl) (row_of _ _ _ (T0.out.set4 q).rm) ?_ ?_
                    · have T1 := Lib.hid (T0.out.set4 q)
                      generalize w4.setRow g4 (nat20 q) = wy at T1 ⊢
                      clear gg
                      refine wpAnyH_all (rs := [9]) (by kernel_rfl) (by simp) ?_
                      have gg := row_of _ _ _ T1.out.rr
                      refine held_store rfl rfl 58 _ _ rfl g5 _ rfl rfl 58 _ gg (by kernel_rfl) (by kernel_rfl) (by kernel_rfl) (row_of _ _ _ (T1.out.set5 r).rm) ?_ ?_
                      · have T2 := Lib.hid (T1.out.set5 r)
                        generalize wy.setRow g5 (nat20 r) = wz at T2 ⊢
                        clear gg
                        refine wpAnyH_done (by kernel_rfl) ?_ _
                        simp only [Act.put, List.setIfInBounds_toArray]
                        go_wp2_with fail
                        go_meet
                        exact ⟨g4, g5, q, r, rfl, rfl, T2, hqq, hrr, VQ, VR⟩
                      · exact AllHeld.nil
                    · exact AllHeld.nil
                  · exact AllHeld.nil
                · exact AllHeld.nil
            · refine AllHeld.cons rfl (fun K hK => ?_) ?_
              · go_simp
                rw [zeros20]
                have D2 := Lib.hid (D1.out.keep ((Below.refl _ _).alloc (Nat.le_refl _) (.cells (nat20 fun _ => 0) 58)))
                have Z4 := Lib.hid (row_new w1 fun _ => 0)
                have L4 := Lib.hid D1.out.rm.lt
                refine hK _ _ (row_of _ _ _ D2.out.rm) ?_
                clear hK K
                generalize w1.alloc (.cells (nat20 fun _ => 0) 58) = w2 at D2 Z4 ⊢
                generalize w1.heap.size = g4 at Z4 L4 ⊢
                refine wpAnyH_all (rs := [2, 7]) (by kernel_rfl) (by simp) ?_
                refine AllHeld.cons rfl (fun K hK => ?_) ?_
                · go_simp
                  refine (over20_any _ _ _ hmr (ofD_in 10) ten_pos ten_two).mono ?_
                  rintro e w3 ⟨q, r, rfl, hqq, hrr, vq, vr, hb3⟩
                  have D3 := Lib.hid (D2.out.keep hb3)
                  have VQ := Lib.hid vq
                  have VR := Lib.hid vr
                  clear vq vr
                  have Z4 := Lib.hid (row_kept Z4.out hb3)
                  refine hK _ _ (row_of _ _ _ D3.out.rm) ?_
                  clear hK K hb3
                  refine wpAnyH_take (i := 3) (v := .tuple #[.agg (nat20 q), .agg (nat20 r)]) rfl (by kernel_rfl) (by kernel_rfl) (by kernel_rfl) (fun _ _ _ h => h) (Or.inl ⟨by rfl, fun _ _ => by go_simp⟩) (row_of _ _ _ D3.out.rm) ?_
                  refine wpAnyH_take (i := 4) (v := .agg (nat20 q)) rfl (by kernel_rfl) (by kernel_rfl) (by kernel_rfl) (fun _ _ _ h => h) (Or.inl ⟨by rfl, fun _ _ => by go_simp⟩) (row_of _ _ _ D3.out.rm) ?_
                  refine wpAnyH_take (i := 5) (v := .agg (nat20 r)) rfl (by kernel_rfl) (by kernel_rfl) (by kernel_rfl) (fun _ _ _ h => h) (Or.inl ⟨by rfl, fun _ _ => by go_simp⟩) (row_of _ _ _ D3.out.rm) ?_
                  refine wpAnyH_all (rs := [7]) (by kernel_rfl) (by simp) ?_
                  refine AllHeld.cons rfl (fun K hK => ?_) ?_
                  · go_simp
                    rw [zeros20]
                    have YY := Lib.hid Z4.out.lt
                    have D4 := Lib.hid (D3.out.keep ((Below.refl _ _).alloc (Nat.le_refl _) (.cells (nat20 fun _ => 0) 58)))
                    have Z4 := Lib.hid (Z4.out.alloc (.cells (nat20 fun _ => 0) 58))
                    have Z5 := Lib.hid (row_new w3 fun _ => 0)
                    have L5 := Lib.hid D3.out.rm.lt
                    refine hK _ _ (row_of _ _ _ D4.out.rm) ?_
                    clear hK K
                    generalize w3.alloc (.cells (nat20 fun _ => 0) 58) = w4 at D4 Z5 Z4 ⊢
                    generalize w3.heap.size = g5 at Z5 L5 YY ⊢
                    have NN : Hid (g4 ≠ g5) := Lib.hid (show g4 ≠ g5 by have := YY.out; omega)
                    refine wpAnyH_all (rs := [8]) (by kernel_rfl) (by simp) ?_
                    have T0 := Lib.hid (DigTwo.mk D4.out.rm Z4.out Z5.out NN.out L4.out L5.out D4.out.bl)
                    have gg := row_of _ _ _ T0.out.rq
                    refine held_store rfl rfl 58 _ _ rfl g4 _ rfl rfl 58 _ gg (by kernel_rfl) (by kernel_rfl) (by kernel_rfl) (row_of _ _ _ (T0.out.set4 q).rm) ?_ ?_
                    · have T1 := Lib.hid (T0.out.set4 q)
                      generalize w4.setRow g4 (nat20 q) = wy at T1 ⊢
                      clear gg
                      refine wpAnyH_all (rs := [9]) (by kernel_rfl) (by simp) ?_
                      have gg := row_of _ _ _ T1.out.rr
                      refine held_store rfl rfl 58 _ _ rfl g5 _ rfl rfl 58 _ gg (by kernel_rfl) (by kernel_rfl) (by kernel_rfl) (row_of _ _ _ (T1.out.set5 r).rm) ?_ ?_
                      · have T2 := Lib.hid (T1.out.set5 r)
                        generalize wy.setRow g5 (nat20 r) = wz at T2 ⊢
                        clear gg
                        refine wpAnyH_done (by kernel_rfl) ?_ _
                        simp only [Act.put, List.setIfInBounds_toArray]
                        go_wp2_with fail
                        go_meet
                        exact ⟨g4, g5, q, r, rfl, rfl, T2, hqq, hrr, VQ, VR⟩
                      · exact AllHeld.nil
                    · exact AllHeld.nil
                  · exact AllHeld.nil
                · refine AllHeld.cons rfl (fun K hK => ?_) ?_
                  · go_simp
                    rw [zeros20]
                    have YY := Lib.hid Z4.out.lt
                    have D3 := Lib.hid (D2.out.keep ((Below.refl _ _).alloc (Nat.le_refl _) (.cells (nat20 fun _ => 0) 58)))
                    have Z4 := Lib.hid (Z4.out.alloc (.cells (nat20 fun _ => 0) 58))
                    have Z5 := Lib.hid (row_new w2 fun _ => 0)
                    have L5 := Lib.hid D2.out.rm.lt
                    refine hK _ _ (row_of _ _ _ D3.out.rm) ?_
                    clear hK K
                    generalize w2.alloc (.cells (nat20 fun _ => 0) 58) = w3 at D3 Z5 Z4 ⊢
                    generalize w2.heap.size = g5 at Z5 L5 YY ⊢
                    have NN : Hid (g4 ≠ g5) := Lib.hid (show g4 ≠ g5 by have := YY.out; omega)
                    refine wpAnyH_all (rs := [2]) (by kernel_rfl) (by simp) ?_
                    refine AllHeld.cons rfl (fun K hK => ?_) ?_
                    · go_simp
                      refine (over20_any _ _ _ hmr (ofD_in 10) ten_pos ten_two).mono ?_
                      rintro e w4 ⟨q, r, rfl, hqq, hrr, vq, vr, hb4⟩
                      have D4 := Lib.hid (D3.out.keep hb4)
                      have VQ := Lib.hid vq
                      have VR := Lib.hid vr
                      clear vq vr
                      have Z4 := Lib.hid (row_kept Z4.out hb4)
                      have Z5 := Lib.hid (row_kept Z5.out hb4)
                      refine hK _ _ (row_of _ _ _ D4.out.rm) ?_
                      clear hK K hb4
                      refine wpAnyH_take (i := 3) (v := .tuple #[.agg (nat20 q), .agg (nat20 r)]) rfl (by kernel_rfl) (by kernel_rfl) (by kernel_rfl) (fun _ _ _ h => h) (Or.inl ⟨by rfl, fun _ _ => by go_simp⟩) (row_of _ _ _ D4.out.rm) ?_
                      refine wpAnyH_take (i := 4) (v := .agg (nat20 q)) rfl (by kernel_rfl) (by kernel_rfl) (by kernel_rfl) (fun _ _ _ h => h) (Or.inl ⟨by rfl, fun _ _ => by go_simp⟩) (row_of _ _ _ D4.out.rm) ?_
                      refine wpAnyH_take (i := 5) (v := .agg (nat20 r)) rfl (by kernel_rfl) (by kernel_rfl) (by kernel_rfl) (fun _ _ _ h => h) (Or.inl ⟨by rfl, fun _ _ => by go_simp⟩) (row_of _ _ _ D4.out.rm) ?_
                      refine wpAnyH_all (rs := [8]) (by kernel_rfl) (by simp) ?_
                      have T0 := Lib.hid (DigTwo.mk D4.out.rm Z4.out Z5.out NN.out L4.out L5.out D4.out.bl)
                      have gg := row_of _ _ _ T0.out.rq
                      refine held_store rfl rfl 58 _ _ rfl g4 _ rfl rfl 58 _ gg (by kernel_rfl) (by kernel_rfl) (by kernel_rfl) (row_of _ _ _ (T0.out.set4 q).rm) ?_ ?_
                      · have T1 := Lib.hid (T0.out.set4 q)
                        generalize w4.setRow g4 (nat20 q) = wy at T1 ⊢
                        clear gg
                        refine wpAnyH_all (rs := [9]) (by kernel_rfl) (by simp) ?_
                        have gg := row_of _ _ _ T1.out.rr
                        refine held_store rfl rfl 58 _ _ rfl g5 _ rfl rfl 58 _ gg (by kernel_rfl) (by kernel_rfl) (by kernel_rfl) (row_of _ _ _ (T1.out.set5 r).rm) ?_ ?_
                        · have T2 := Lib.hid (T1.out.set5 r)
                          generalize wy.setRow g5 (nat20 r) = wz at T2 ⊢
                          clear gg
                          refine wpAnyH_done (by kernel_rfl) ?_ _
                          simp only [Act.put, List.setIfInBounds_toArray]
                          go_wp2_with fail
                          go_meet
                          exact ⟨g4, g5, q, r, rfl, rfl, T2, hqq, hrr, VQ, VR⟩
                        · exact AllHeld.nil
                      · exact AllHeld.nil
                    · exact AllHeld.nil
                  · exact AllHeld.nil
              · refine AllHeld.cons rfl (fun K hK => ?_) ?_
                · go_simp
                  rw [zeros20]
                  have D2 := Lib.hid (D1.out.keep ((Below.refl _ _).alloc (Nat.le_refl _) (.cells (nat20 fun _ => 0) 58)))
                  have Z5 := Lib.hid (row_new w1 fun _ => 0)
                  have L5 := Lib.hid D1.out.rm.lt
                  refine hK _ _ (row_of _ _ _ D2.out.rm) ?_
                  clear hK K
                  generalize w1.alloc (.cells (nat20 fun _ => 0) 58) = w2 at D2 Z5 ⊢
                  generalize w1.heap.size = g5 at Z5 L5 ⊢
                  refine wpAnyH_all (rs := [2, 6]) (by kernel_rfl) (by simp) ?_
                  refine AllHeld.cons rfl (fun K hK => ?_) ?_
                  · go_simp
                    refine (over20_any _ _ _ hmr (ofD_in 10) ten_pos ten_two).mono ?_
                    rintro e w3 ⟨q, r, rfl, hqq, hrr, vq, vr, hb3⟩
                    have D3 := Lib.hid (D2.out.keep hb3)
                    have VQ := Lib.hid vq
                    have VR := Lib.hid vr
                    clear vq vr
                    have Z5 := Lib.hid (row_kept Z5.out hb3)
                    refine hK _ _ (row_of _ _ _ D3.out.rm) ?_
                    clear hK K hb3
                    refine wpAnyH_take (i := 3) (v := .tuple #[.agg (nat20 q), .agg (nat20 r)]) rfl (by kernel_rfl) (by kernel_rfl) (by kernel_rfl) (fun _ _ _ h => h) (Or.inl ⟨by rfl, fun _ _ => by go_simp⟩) (row_of _ _ _ D3.out.rm) ?_
                    refine wpAnyH_take (i := 4) (v := .agg (nat20 q)) rfl (by kernel_rfl) (by kernel_rfl) (by kernel_rfl) (fun _ _ _ h => h) (Or.inl ⟨by rfl, fun _ _ => by go_simp⟩) (row_of _ _ _ D3.out.rm) ?_
                    refine wpAnyH_take (i := 5) (v := .agg (nat20 r)) rfl (by kernel_rfl) (by kernel_rfl) (by kernel_rfl) (fun _ _ _ h => h) (Or.inl ⟨by rfl, fun _ _ => by go_simp⟩) (row_of _ _ _ D3.out.rm) ?_
                    refine wpAnyH_all (rs := [6]) (by kernel_rfl) (by simp) ?_
                    refine AllHeld.cons rfl (fun K hK => ?_) ?_
                    · go_simp
                      rw [zeros20]
                      have YY := Lib.hid Z5.out.lt
                      have D4 := Lib.hid (D3.out.keep ((Below.refl _ _).alloc (Nat.le_refl _) (.cells (nat20 fun _ => 0) 58)))
                      have Z5 := Lib.hid (Z5.out.alloc (.cells (nat20 fun _ => 0) 58))
                      have Z4 := Lib.hid (row_new w3 fun _ => 0)
                      have L4 := Lib.hid D3.out.rm.lt
                      refine hK _ _ (row_of _ _ _ D4.out.rm) ?_
                      clear hK K
                      generalize w3.alloc (.cells (nat20 fun _ => 0) 58) = w4 at D4 Z4 Z5 ⊢
                      generalize w3.heap.size = g4 at Z4 L4 YY ⊢
                      have NN : Hid (g4 ≠ g5) := Lib.hid (show g4 ≠ g5 by have := YY.out; omega)
                      refine wpAnyH_all (rs := [8]) (by kernel_rfl) (by simp) ?_
                      have T0 := Lib.hid (DigTwo.mk D4.out.rm Z4.out Z5.out NN.out L4.out L5.out D4.out.bl)
                      have gg := row_of _ _ _ T0.out.rq
                      refine held_store rfl rfl 58 _ _ rfl g4 _ rfl rfl 58 _ gg (by kernel_rfl) (by kernel_rfl) (by kernel_rfl) (row_of _ _ _ (T0.out.set4 q).rm) ?_ ?_
                      · have T1 := Lib.hid (T0.out.set4 q)
                        generalize w4.setRow g4 (nat20 q) = wy at T1 ⊢
                        clear gg
                        refine wpAnyH_all (rs := [9]) (by kernel_rfl) (by simp) ?_
                        have gg := row_of _ _ _ T1.out.rr
                        refine held_store rfl rfl 58 _ _ rfl g5 _ rfl rfl 58 _ gg (by kernel_rfl) (by kernel_rfl) (by kernel_rfl) (row_of _ _ _ (T1.out.set5 r).rm) ?_ ?_
                        · have T2 := Lib.hid (T1.out.set5 r)
                          generalize wy.setRow g5 (nat20 r) = wz at T2 ⊢
                          clear gg
                          refine wpAnyH_done (by kernel_rfl) ?_ _
                          simp only [Act.put, List.setIfInBounds_toArray]
                          go_wp2_with fail
                          go_meet
                          exact ⟨g4, g5, q, r, rfl, rfl, T2, hqq, hrr, VQ, VR⟩
                        · exact AllHeld.nil
                      · exact AllHeld.nil
                    · exact AllHeld.nil
                  · refine AllHeld.cons rfl (fun K hK => ?_) ?_
                    · go_simp
                      rw [zeros20]
                      have YY := Lib.hid Z5.out.lt
                      have D3 := Lib.hid (D2.out.keep ((Below.refl _ _).alloc (Nat.le_refl _) (.cells (nat20 fun _ => 0) 58)))
                      have Z5 := Lib.hid (Z5.out.alloc (.cells (nat20 fun _ => 0) 58))
                      have Z4 := Lib.hid (row_new w2 fun _ => 0)
                      have L4 := Lib.hid D2.out.rm.lt
                      refine hK _ _ (row_of _ _ _ D3.out.rm) ?_
                      clear hK K
                      generalize w2.alloc (.cells (nat20 fun _ => 0) 58) = w3 at D3 Z4 Z5 ⊢
                      generalize w2.heap.size = g4 at Z4 L4 YY ⊢
                      have NN : Hid (g4 ≠ g5) := Lib.hid (show g4 ≠ g5 by have := YY.out; omega)
                      refine wpAnyH_all (rs := [2]) (by kernel_rfl) (by simp) ?_
                      refine AllHeld.cons rfl (fun K hK => ?_) ?_
                      · go_simp
                        refine (over20_any _ _ _ hmr (ofD_in 10) ten_pos ten_two).mono ?_
                        rintro e w4 ⟨q, r, rfl, hqq, hrr, vq, vr, hb4⟩
                        have D4 := Lib.hid (D3.out.keep hb4)
                        have VQ := Lib.hid vq
                        have VR := Lib.hid vr
                        clear vq vr
                        have Z4 := Lib.hid (row_kept Z4.out hb4)
                        have Z5 := Lib.hid (row_kept Z5.out hb4)
                        refine hK _ _ (row_of _ _ _ D4.out.rm) ?_
                        clear hK K hb4
                        refine wpAnyH_take (i := 3) (v := .tuple #[.agg (nat20 q), .agg (nat20 r)]) rfl (by kernel_rfl) (by kernel_rfl) (by kernel_rfl) (fun _ _ _ h => h) (Or.inl ⟨by rfl, fun _ _ => by go_simp⟩) (row_of _ _ _ D4.out.rm) ?_
                        refine wpAnyH_take (i := 4) (v := .agg (nat20 q)) rfl (by kernel_rfl) (by kernel_rfl) (by kernel_rfl) (fun _ _ _ h => h) (Or.inl ⟨by rfl, fun _ _ => by go_simp⟩) (row_of _ _ _ D4.out.rm) ?_
                        refine wpAnyH_take (i := 5) (v := .agg (nat20 r)) rfl (by kernel_rfl) (by kernel_rfl) (by kernel_rfl) (fun _ _ _ h => h) (Or.inl ⟨by rfl, fun _ _ => by go_simp⟩) (row_of _ _ _ D4.out.rm) ?_
                        refine wpAnyH_all (rs := [8]) (by kernel_rfl) (by simp) ?_
                        have T0 := Lib.hid (DigTwo.mk D4.out.rm Z4.out Z5.out NN.out L4.out L5.out D4.out.bl)
                        have gg := row_of _ _ _ T0.out.rq
                        refine held_store rfl rfl 58 _ _ rfl g4 _ rfl rfl 58 _ gg (by kernel_rfl) (by kernel_rfl) (by kernel_rfl) (row_of _ _ _ (T0.out.set4 q).rm) ?_ ?_
                        · have T1 := Lib.hid (T0.out.set4 q)
                          generalize w4.setRow g4 (nat20 q) = wy at T1 ⊢
                          clear gg
                          refine wpAnyH_all (rs := [9]) (by kernel_rfl) (by simp) ?_
                          have gg := row_of _ _ _ T1.out.rr
                          refine held_store rfl rfl 58 _ _ rfl g5 _ rfl rfl 58 _ gg (by kernel_rfl) (by kernel_rfl) (by kernel_rfl) (row_of _ _ _ (T1.out.set5 r).rm) ?_ ?_
                          · have T2 := Lib.hid (T1.out.set5 r)
                            generalize wy.setRow g5 (nat20 r) = wz at T2 ⊢
                            clear gg
                            refine wpAnyH_done (by kernel_rfl) ?_ _
                            simp only [Act.put, List.setIfInBounds_toArray]
                            go_wp2_with fail
                            go_meet
                            exact ⟨g4, g5, q, r, rfl, rfl, T2, hqq, hrr, VQ, VR⟩
                          · exact AllHeld.nil
                        · exact AllHeld.nil
                      · exact AllHeld.nil
                    · exact AllHeld.nil
                · exact AllHeld.nil
          · refine AllHeld.cons rfl (fun K hK => ?_) ?_
            · go_simp
              rw [zeros20]
              have D1 := Lib.hid (D0.out.keep ((Below.refl _ _).alloc (Nat.le_refl _) (.cells (nat20 fun _ => 0) 58)))
              have Z4 := Lib.hid (row_new w0 fun _ => 0)
              have L4 := Lib.hid D0.out.rm.lt
              refine hK _ _ (row_of _ _ _ D1.out.rm) ?_
              clear hK K
              generalize w0.alloc (.cells (nat20 fun _ => 0) 58) = w1 at D1 Z4 ⊢
              generalize w0.heap.size = g4 at Z4 L4 ⊢
              refine wpAnyH_all (rs := [1, 7]) (by kernel_rfl) (by simp) ?_
              refine AllHeld.cons rfl (fun K hK => ?_) ?_
              · go_simp
                refine (of_any 10 _ (by decide) (by decide)).mono ?_
                rintro e w2 ⟨rfl, hb2⟩
                have D2 := Lib.hid (D1.out.keep hb2)
                have Z4 := Lib.hid (row_kept Z4.out hb2)
                refine hK _ _ (row_of _ _ _ D2.out.rm) ?_
                clear hK K hb2
                refine wpAnyH_all (rs := [2, 7]) (by kernel_rfl) (by simp) ?_
                refine AllHeld.cons rfl (fun K hK => ?_) ?_
                · go_simp
                  refine (over20_any _ _ _ hmr (ofD_in 10) ten_pos ten_two).mono ?_
                  rintro e w3 ⟨q, r, rfl, hqq, hrr, vq, vr, hb3⟩
                  have D3 := Lib.hid (D2.out.keep hb3)
                  have VQ := Lib.hid vq
                  have VR := Lib.hid vr
                  clear vq vr
                  have Z4 := Lib.hid (row_kept Z4.out hb3)
                  refine hK _ _ (row_of _ _ _ D3.out.rm) ?_
                  clear hK K hb3
                  refine wpAnyH_take (i := 3) (v := .tuple #[.agg (nat20 q), .agg (nat20 r)]) rfl (by kernel_rfl) (by kernel_rfl) (by kernel_rfl) (fun _ _ _ h => h) (Or.inl ⟨by rfl, fun _ _ => by go_simp⟩) (row_of _ _ _ D3.out.rm) ?_
                  refine wpAnyH_take (i := 4) (v := .agg (nat20 q)) rfl (by kernel_rfl) (by kernel_rfl) (by kernel_rfl) (fun _ _ _ h => h) (Or.inl ⟨by rfl, fun _ _ => by go_simp⟩) (row_of _ _ _ D3.out.rm) ?_
                  refine wpAnyH_take (i := 5) (v := .agg (nat20 r)) rfl (by kernel_rfl) (by kernel_rfl) (by kernel_rfl) (fun _ _ _ h => h) (Or.inl ⟨by rfl, fun _ _ => by go_simp⟩) (row_of _ _ _ D3.out.rm) ?_
                  refine wpAnyH_all (rs := [7]) (by kernel_rfl) (by simp) ?_
                  refine AllHeld.cons rfl (fun K hK => ?_) ?_
                  · go_simp
                    rw [zeros20]
                    have YY := Lib.hid Z4.out.lt
                    have D4 := Lib.hid (D3.out.keep ((Below.refl _ _).alloc (Nat.le_refl _) (.cells (nat20 fun _ => 0) 58)))
                    have Z4 := Lib.hid (Z4.out.alloc (.cells (nat20 fun _ => 0) 58))
                    have Z5 := Lib.hid (row_new w3 fun _ => 0)
                    have L5 := Lib.hid D3.out.rm.lt
                    refine hK _ _ (row_of _ _ _ D4.out.rm) ?_
                    clear hK K
                    generalize w3.alloc (.cells (nat20 fun _ => 0) 58) = w4 at D4 Z5 Z4 ⊢
                    generalize w3.heap.size = g5 at Z5 L5 YY ⊢
                    have NN : Hid (g4 ≠ g5) := Lib.hid (show g4 ≠ g5 by have := YY.out; omega)
                    refine wpAnyH_all (rs := [8]) (by kernel_rfl) (by simp) ?_
                    have T0 := Lib.hid (DigTwo.mk D4.out.rm Z4.out Z5.out NN.out L4.out L5.out D4.out.bl)
                    have gg := row_of _ _ _ T0.out.rq
                    refine held_store rfl rfl 58 _ _ rfl g4 _ rfl rfl 58 _ gg (by kernel_rfl) (by kernel_rfl) (by kernel_rfl) (row_of _ _ _ (T0.out.set4 q).rm) ?_ ?_
                    · have T1 := Lib.hid (T0.out.set4 q)
                      generalize w4.setRow g4 (nat20 q) = wy at T1 ⊢
                      clear gg
                      refine wpAnyH_all (rs := [9]) (by kernel_rfl) (by simp) ?_
                      have gg := row_of _ _ _ T1.out.rr
                      refine held_store rfl rfl 58 _ _ rfl g5 _ rfl rfl 58 _ gg (by kernel_rfl) (by kernel_rfl) (by kernel_rfl) (row_of _ _ _ (T1.out.set5 r).rm) ?_ ?_
                      · have T2 := Lib.hid (T1.out.set5 r)
                        generalize wy.setRow g5 (nat20 r) = wz at T2 ⊢
                        clear gg
                        refine wpAnyH_done (by kernel_rfl) ?_ _
                        simp only [Act.put, List.setIfInBounds_toArray]
                        go_wp2_with fail
                        go_meet
                        exact ⟨g4, g5, q, r, rfl, rfl, T2, hqq, hrr, VQ, VR⟩
                      · exact AllHeld.nil
                    · exact AllHeld.nil
                  · exact AllHeld.nil
                · refine AllHeld.cons rfl (fun K hK => ?_) ?_
                  · go_simp
                    rw [zeros20]
                    have YY := Lib.hid Z4.out.lt
                    have D3 := Lib.hid (D2.out.keep ((Below.refl _ _).alloc (Nat.le_refl _) (.cells (nat20 fun _ => 0) 58)))
                    have Z4 := Lib.hid (Z4.out.alloc (.cells (nat20 fun _ => 0) 58))
                    have Z5 := Lib.hid (row_new w2 fun _ => 0)
                    have L5 := Lib.hid D2.out.rm.lt
                    refine hK _ _ (row_of _ _ _ D3.out.rm) ?_
                    clear hK K
                    generalize w2.alloc (.cells (nat20 fun _ => 0) 58) = w3 at D3 Z5 Z4 ⊢
                    generalize w2.heap.size = g5 at Z5 L5 YY ⊢
                    have NN : Hid (g4 ≠ g5) := Lib.hid (show g4 ≠ g5 by have := YY.out; omega)
                    refine wpAnyH_all (rs := [2]) (by kernel_rfl) (by simp) ?_
                    refine AllHeld.cons rfl (fun K hK => ?_) ?_
                    · go_simp
                      refine (over20_any _ _ _ hmr (ofD_in 10) ten_pos ten_two).mono ?_
                      rintro e w4 ⟨q, r, rfl, hqq, hrr, vq, vr, hb4⟩
                      have D4 := Lib.hid (D3.out.keep hb4)
                      have VQ := Lib.hid vq
                      have VR := Lib.hid vr
                      clear vq vr
                      have Z4 := Lib.hid (row_kept Z4.out hb4)
                      have Z5 := Lib.hid (row_kept Z5.out hb4)
                      refine hK _ _ (row_of _ _ _ D4.out.rm) ?_
                      clear hK K hb4
                      refine wpAnyH_take (i := 3) (v := .tuple #[.agg (nat20 q), .agg (nat20 r)]) rfl (by kernel_rfl) (by kernel_rfl) (by kernel_rfl) (fun _ _ _ h => h) (Or.inl ⟨by rfl, fun _ _ => by go_simp⟩) (row_of _ _ _ D4.out.rm) ?_
                      refine wpAnyH_take (i := 4) (v := .agg (nat20 q)) rfl (by kernel_rfl) (by kernel_rfl) (by kernel_rfl) (fun _ _ _ h => h) (Or.inl ⟨by rfl, fun _ _ => by go_simp⟩) (row_of _ _ _ D4.out.rm) ?_
                      refine wpAnyH_take (i := 5) (v := .agg (nat20 r)) rfl (by kernel_rfl) (by kernel_rfl) (by kernel_rfl) (fun _ _ _ h => h) (Or.inl ⟨by rfl, fun _ _ => by go_simp⟩) (row_of _ _ _ D4.out.rm) ?_
                      refine wpAnyH_all (rs := [8]) (by kernel_rfl) (by simp) ?_
                      have T0 := Lib.hid (DigTwo.mk D4.out.rm Z4.out Z5.out NN.out L4.out L5.out D4.out.bl)
                      have gg := row_of _ _ _ T0.out.rq
                      refine held_store rfl rfl 58 _ _ rfl g4 _ rfl rfl 58 _ gg (by kernel_rfl) (by kernel_rfl) (by kernel_rfl) (row_of _ _ _ (T0.out.set4 q).rm) ?_ ?_
                      · have T1 := Lib.hid (T0.out.set4 q)
                        generalize w4.setRow g4 (nat20 q) = wy at T1 ⊢
                        clear gg
                        refine wpAnyH_all (rs := [9]) (by kernel_rfl) (by simp) ?_
                        have gg := row_of _ _ _ T1.out.rr
                        refine held_store rfl rfl 58 _ _ rfl g5 _ rfl rfl 58 _ gg (by kernel_rfl) (by kernel_rfl) (by kernel_rfl) (row_of _ _ _ (T1.out.set5 r).rm) ?_ ?_
                        · have T2 := Lib.hid (T1.out.set5 r)
                          generalize wy.setRow g5 (nat20 r) = wz at T2 ⊢
                          clear gg
                          refine wpAnyH_done (by kernel_rfl) ?_ _
                          simp only [Act.put, List.setIfInBounds_toArray]
                          go_wp2_with fail
                          go_meet
                          exact ⟨g4, g5, q, r, rfl, rfl, T2, hqq, hrr, VQ, VR⟩
                        · exact AllHeld.nil
                      · exact AllHeld.nil
                    · exact AllHeld.nil
                  · exact AllHeld.nil
              · refine AllHeld.cons rfl (fun K hK => ?_) ?_
                · go_simp
                  rw [zeros20]
                  have YY := Lib.hid Z4.out.lt
                  have D2 := Lib.hid (D1.out.keep ((Below.refl _ _).alloc (Nat.le_refl _) (.cells (nat20 fun _ => 0) 58)))
                  have Z4 := Lib.hid (Z4.out.alloc (.cells (nat20 fun _ => 0) 58))
                  have Z5 := Lib.hid (row_new w1 fun _ => 0)
                  have L5 := Lib.hid D1.out.rm.lt
                  refine hK _ _ (row_of _ _ _ D2.out.rm) ?_
                  clear hK K
                  generalize w1.alloc (.cells (nat20 fun _ => 0) 58) = w2 at D2 Z5 Z4 ⊢
                  generalize w1.heap.size = g5 at Z5 L5 YY ⊢
                  have NN : Hid (g4 ≠ g5) := Lib.hid (show g4 ≠ g5 by have := YY.out; omega)
                  refine wpAnyH_all (rs := [1]) (by kernel_rfl) (by simp) ?_
                  refine AllHeld.cons rfl (fun K hK => ?_) ?_
                  · go_simp
                    refine (of_any 10 _ (by decide) (by decide)).mono ?_
                    rintro e w3 ⟨rfl, hb3⟩
                    have D3 := Lib.hid (D2.out.keep hb3)
                    have Z4 := Lib.hid (row_kept Z4.out hb3)
                    have Z5 := Lib.hid (row_kept Z5.out hb3)
                    refine hK _ _ (row_of _ _ _ D3.out.rm) ?_
                    clear hK K hb3
                    refine wpAnyH_all (rs := [2]) (by kernel_rfl) (by simp) ?_
                    refine AllHeld.cons rfl (fun K hK => ?_) ?_
                    · go_simp
                      refine (over20_any _ _ _ hmr (ofD_in 10) ten_pos ten_two).mono ?_
                      rintro e w4 ⟨q, r, rfl, hqq, hrr, vq, vr, hb4⟩
                      have D4 := Lib.hid (D3.out.keep hb4)
                      have VQ := Lib.hid vq
                      have VR := Lib.hid vr
                      clear vq vr
                      have Z4 := Lib.hid (row_kept Z4.out hb4)
                      have Z5 := Lib.hid (row_kept Z5.out hb4)
                      refine hK _ _ (row_of _ _ _ D4.out.rm) ?_
                      clear hK K hb4
                      refine wpAnyH_take (i := 3) (v := .tuple #[.agg (nat20 q), .agg (nat20 r)]) rfl (by kernel_rfl) (by kernel_rfl) (by kernel_rfl) (fun _ _ _ h => h) (Or.inl ⟨by rfl, fun _ _ => by go_simp⟩) (row_of _ _ _ D4.out.rm) ?_
                      refine wpAnyH_take (i := 4) (v := .agg (nat20 q)) rfl (by kernel_rfl) (by kernel_rfl) (by kernel_rfl) (fun _ _ _ h => h) (Or.inl ⟨by rfl, fun _ _ => by go_simp⟩) (row_of _ _ _ D4.out.rm) ?_
                      refine wpAnyH_take (i := 5) (v := .agg (nat20 r)) rfl (by kernel_rfl) (by kernel_rfl) (by kernel_rfl) (fun _ _ _ h => h) (Or.inl ⟨by rfl, fun _ _ => by go_simp⟩) (row_of _ _ _ D4.out.rm) ?_
                      refine wpAnyH_all (rs := [8]) (by kernel_rfl) (by simp) ?_
                      have T0 := Lib.hid (DigTwo.mk D4.out.rm Z4.out Z5.out NN.out L4.out L5.out D4.out.bl)
                      have gg := row_of _ _ _ T0.out.rq
                      refine held_store rfl rfl 58 _ _ rfl g4 _ rfl rfl 58 _ gg (by kernel_rfl) (by kernel_rfl) (by kernel_rfl) (row_of _ _ _ (T0.out.set4 q).rm) ?_ ?_
                      · have T1 := Lib.hid (T0.out.set4 q)
                        generalize w4.setRow g4 (nat20 q) = wy at T1 ⊢
                        clear gg
                        refine wpAnyH_all (rs := [9]) (by kernel_rfl) (by simp) ?_
                        have gg := row_of _ _ _ T1.out.rr
                        refine held_store rfl rfl 58 _ _ rfl g5 _ rfl rfl 58 _ gg (by kernel_rfl) (by kernel_rfl) (by kernel_rfl) (row_of _ _ _ (T1.out.set5 r).rm) ?_ ?_
                        · have T2 := Lib.hid (T1.out.set5 r)
                          generalize wy.setRow g5 (nat20 r) = wz at T2 ⊢
                          clear gg
                          refine wpAnyH_done (by kernel_rfl) ?_ _
                          simp only [Act.put, List.setIfInBounds_toArray]
                          go_wp2_with fail
                          go_meet
                          exact ⟨g4, g5, q, r, rfl, rfl, T2, hqq, hrr, VQ, VR⟩
                        · exact AllHeld.nil
                      · exact AllHeld.nil
                    · exact AllHeld.nil
                  · exact AllHeld.nil
                · exact AllHeld.nil
            · refine AllHeld.cons rfl (fun K hK => ?_) ?_
              · go_simp
                rw [zeros20]
                have D1 := Lib.hid (D0.out.keep ((Below.refl _ _).alloc (Nat.le_refl _) (.cells (nat20 fun _ => 0) 58)))
                have Z5 := Lib.hid (row_new w0 fun _ => 0)
                have L5 := Lib.hid D0.out.rm.lt
                refine hK _ _ (row_of _ _ _ D1.out.rm) ?_
                clear hK K
                generalize w0.alloc (.cells (nat20 fun _ => 0) 58) = w1 at D1 Z5 ⊢
                generalize w0.heap.size = g5 at Z5 L5 ⊢
                refine wpAnyH_all (rs := [1, 6]) (by kernel_rfl) (by simp) ?_
                refine AllHeld.cons rfl (fun K hK => ?_) ?_
                · go_simp
                  refine (of_any 10 _ (by decide) (by decide)).mono ?_
                  rintro e w2 ⟨rfl, hb2⟩
                  have D2 := Lib.hid (D1.out.keep hb2)
                  have Z5 := Lib.hid (row_kept Z5.out hb2)
                  refine hK _ _ (row_of _ _ _ D2.out.rm) ?_
                  clear hK K hb2
                  refine wpAnyH_all (rs := [2, 6]) (by kernel_rfl) (by simp) ?_
                  refine AllHeld.cons rfl (fun K hK => ?_) ?_
                  · go_simp
                    refine (over20_any _ _ _ hmr (ofD_in 10) ten_pos ten_two).mono ?_
                    rintro e w3 ⟨q, r, rfl, hqq, hrr, vq, vr, hb3⟩
                    have D3 := Lib.hid (D2.out.keep hb3)
                    have VQ := Lib.hid vq
                    have VR := Lib.hid vr
                    clear vq vr
                    have Z5 := Lib.hid (row_kept Z5.out hb3)
                    refine hK _ _ (row_of _ _ _ D3.out.rm) ?_
                    clear hK K hb3
                    refine wpAnyH_take (i := 3) (v := .tuple #[.agg (nat20 q), .agg (nat20 r)]) rfl (by kernel_rfl) (by kernel_rfl) (by kernel_rfl) (fun _ _ _ h => h) (Or.inl ⟨by rfl, fun _ _ => by go_simp⟩) (row_of _ _ _ D3.out.rm) ?_
                    refine wpAnyH_take (i := 4) (v := .agg (nat20 q)) rfl (by kernel_rfl) (by kernel_rfl) (by kernel_rfl) (fun _ _ _ h => h) (Or.inl ⟨by rfl, fun _ _ => by go_simp⟩) (row_of _ _ _ D3.out.rm) ?_
                    refine wpAnyH_take (i := 5) (v := .agg (nat20 r)) rfl (by kernel_rfl) (by kernel_rfl) (by kernel_rfl) (fun _ _ _ h => h) (Or.inl ⟨by rfl, fun _ _ => by go_simp⟩) (row_of _ _ _ D3.out.rm) ?_
                    refine wpAnyH_all (rs := [6]) (by kernel_rfl) (by simp) ?_
                    refine AllHeld.cons rfl (fun K hK => ?_) ?_
                    · go_simp
                      rw [zeros20]
                      have YY := Lib.hid Z5.out.lt
                      have D4 := Lib.hid (D3.out.keep ((Below.refl _ _).alloc (Nat.le_refl _) (.cells (nat20 fun _ => 0) 58)))
                      have Z5 := Lib.hid (Z5.out.alloc (.cells (nat20 fun _ => 0) 58))
                      have Z4 := Lib.hid (row_new w3 fun _ => 0)
                      have L4 := Lib.hid D3.out.rm.lt
                      refine hK _ _ (row_of _ _ _ D4.out.rm) ?_
                      clear hK K
                      generalize w3.alloc (.cells (nat20 fun _ => 0) 58) = w4 at D4 Z4 Z5 ⊢
                      generalize w3.heap.size = g4 at Z4 L4 YY ⊢
                      have NN : Hid (g4 ≠ g5) := Lib.hid (show g4 ≠ g5 by have := YY.out; omega)
                      refine wpAnyH_all (rs := [8]) (by kernel_rfl) (by simp) ?_
                      have T0 := Lib.hid (DigTwo.mk D4.out.rm Z4.out Z5.out NN.out L4.out L5.out D4.out.bl)
                      have gg := row_of _ _ _ T0.out.rq
                      refine held_store rfl rfl 58 _ _ rfl g4 _ rfl rfl 58 _ gg (by kernel_rfl) (by kernel_rfl) (by kernel_rfl) (row_of _ _ _ (T0.out.set4 q).rm) ?_ ?_
                      · have T1 := Lib.hid (T0.out.set4 q)
                        generalize w4.setRow g4 (nat20 q) = wy at T1 ⊢
                        clear gg
                        refine wpAnyH_all (rs := [9]) (by kernel_rfl) (by simp) ?_
                        have gg := row_of _ _ _ T1.out.rr
                        refine held_store rfl rfl 58 _ _ rfl g5 _ rfl rfl 58 _ gg (by kernel_rfl) (by kernel_rfl) (by kernel_rfl) (row_of _ _ _ (T1.out.set5 r).rm) ?_ ?_
                        · have T2 := Lib.hid (T1.out.set5 r)
                          generalize wy.setRow g5 (nat20 r) = wz at T2 ⊢
                          clear gg
                          refine wpAnyH_done (by kernel_rfl) ?_ _
                          simp only [Act.put, List.setIfInBounds_toArray]
                          go_wp2_with fail
                          go_meet
                          exact ⟨g4, g5, q, r, rfl, rfl, T2, hqq, hrr, VQ, VR⟩
                        · exact AllHeld.nil
                      · exact AllHeld.nil
                    · exact AllHeld.nil
                  · refine AllHeld.cons rfl (fun K hK => ?_) ?_
                    · go_simp
                      rw [zeros20]
                      have YY := Lib.hid Z5.out.lt
                      have D3 := Lib.hid (D2.out.keep ((Below.refl _ _).alloc (Nat.le_refl _) (.cells (nat20 fun _ => 0) 58)))
                      have Z5 := Lib.hid (Z5.out.alloc (.cells (nat20 fun _ => 0) 58))
                      have Z4 := Lib.hid (row_new w2 fun _ => 0)
                      have L4 := Lib.hid D2.out.rm.lt
                      refine hK _ _ (row_of _ _ _ D3.out.rm) ?_
                      clear hK K
                      generalize w2.alloc (.cells (nat20 fun _ => 0) 58) = w3 at D3 Z4 Z5 ⊢
                      generalize w2.heap.size = g4 at Z4 L4 YY ⊢
                      have NN : Hid (g4 ≠ g5) := Lib.hid (show g4 ≠ g5 by have := YY.out; omega)
                      refine wpAnyH_all (rs := [2]) (by kernel_rfl) (by simp) ?_
                      refine AllHeld.cons rfl (fun K hK => ?_) ?_
                      · go_simp
                        refine (over20_any _ _ _ hmr (ofD_in 10) ten_pos ten_two).mono ?_
                        rintro e w4 ⟨q, r, rfl, hqq, hrr, vq, vr, hb4⟩
                        have D4 := Lib.hid (D3.out.keep hb4)
                        have VQ := Lib.hid vq
                        have VR := Lib.hid vr
                        clear vq vr
                        have Z4 := Lib.hid (row_kept Z4.out hb4)
                        have Z5 := Lib.hid (row_kept Z5.out hb4)
                        refine hK _ _ (row_of _ _ _ D4.out.rm) ?_
                        clear hK K hb4
                        refine wpAnyH_take (i := 3) (v := .tuple #[.agg (nat20 q), .agg (nat20 r)]) rfl (by kernel_rfl) (by kernel_rfl) (by kernel_rfl) (fun _ _ _ h => h) (Or.inl ⟨by rfl, fun _ _ => by go_simp⟩) (row_of _ _ _ D4.out.rm) ?_
                        refine wpAnyH_take (i := 4) (v := .agg (nat20 q)) rfl (by kernel_rfl) (by kernel_rfl) (by kernel_rfl) (fun _ _ _ h => h) (Or.inl ⟨by rfl, fun _ _ => by go_simp⟩) (row_of _ _ _ D4.out.rm) ?_
                        refine wpAnyH_take (i := 5) (v := .agg (nat20 r)) rfl (by kernel_rfl) (by kernel_rfl) (by kernel_rfl) (fun _ _ _ h => h) (Or.inl ⟨by rfl, fun _ _ => by go_simp⟩) (row_of _ _ _ D4.out.rm) ?_
                        refine wpAnyH_all (rs := [8]) (by kernel_rfl) (by simp) ?_
                        have T0 := Lib.hid (DigTwo.mk D4.out.rm Z4.out Z5.out NN.out L4.out L5.out D4.out.bl)
                        have gg := row_of _ _ _ T0.out.rq
                        refine held_store rfl rfl 58 _ _ rfl g4 _ rfl rfl 58 _ gg (by kernel_rfl) (by kernel_rfl) (by kernel_rfl) (row_of _ _ _ (T0.out.set4 q).rm) ?_ ?_
                        · have T1 := Lib.hid (T0.out.set4 q)
                          generalize w4.setRow g4 (nat20 q) = wy at T1 ⊢
                          clear gg
                          refine wpAnyH_all (rs := [9]) (by kernel_rfl) (by simp) ?_
                          have gg := row_of _ _ _ T1.out.rr
                          refine held_store rfl rfl 58 _ _ rfl g5 _ rfl rfl 58 _ gg (by kernel_rfl) (by kernel_rfl) (by kernel_rfl) (row_of _ _ _ (T1.out.set5 r).rm) ?_ ?_
                          · have T2 := Lib.hid (T1.out.set5 r)
                            generalize wy.setRow g5 (nat20 r) = wz at T2 ⊢
                            clear gg
                            refine wpAnyH_done (by kernel_rfl) ?_ _
                            simp only [Act.put, List.setIfInBounds_toArray]
                            go_wp2_with fail
                            go_meet
                            exact ⟨g4, g5, q, r, rfl, rfl, T2, hqq, hrr, VQ, VR⟩
                          · exact AllHeld.nil
                        · exact AllHeld.nil
                      · exact AllHeld.nil
                    · exact AllHeld.nil
                · refine AllHeld.cons rfl (fun K hK => ?_) ?_
                  · go_simp
                    rw [zeros20]
                    have YY := Lib.hid Z5.out.lt
                    have D2 := Lib.hid (D1.out.keep ((Below.refl _ _).alloc (Nat.le_refl _) (.cells (nat20 fun _ => 0) 58)))
                    have Z5 := Lib.hid (Z5.out.alloc (.cells (nat20 fun _ => 0) 58))
                    have Z4 := Lib.hid (row_new w1 fun _ => 0)
                    have L4 := Lib.hid D1.out.rm.lt
                    refine hK _ _ (row_of _ _ _ D2.out.rm) ?_
                    clear hK K
                    generalize w1.alloc (.cells (nat20 fun _ => 0) 58) = w2 at D2 Z4 Z5 ⊢
                    generalize w1.heap.size = g4 at Z4 L4 YY ⊢
                    have NN : Hid (g4 ≠ g5) := Lib.hid (show g4 ≠ g5 by have := YY.out; omega)
                    refine wpAnyH_all (rs := [1]) (by kernel_rfl) (by simp) ?_
                    refine AllHeld.cons rfl (fun K hK => ?_) ?_
                    · go_simp
                      refine (of_any 10 _ (by decide) (by decide)).mono ?_
                      rintro e w3 ⟨rfl, hb3⟩
                      have D3 := Lib.hid (D2.out.keep hb3)
                      have Z4 := Lib.hid (row_kept Z4.out hb3)
                      have Z5 := Lib.hid (row_kept Z5.out hb3)
                      refine hK _ _ (row_of _ _ _ D3.out.rm) ?_
                      clear hK K hb3
                      refine wpAnyH_all (rs := [2]) (by kernel_rfl) (by simp) ?_
                      refine AllHeld.cons rfl (fun K hK => ?_) ?_
                      · go_simp
                        refine (over20_any _ _ _ hmr (ofD_in 10) ten_pos ten_two).mono ?_
                        rintro e w4 ⟨q, r, rfl, hqq, hrr, vq, vr, hb4⟩
                        have D4 := Lib.hid (D3.out.keep hb4)
                        have VQ := Lib.hid vq
                        have VR := Lib.hid vr
                        clear vq vr
                        have Z4 := Lib.hid (row_kept Z4.out hb4)
                        have Z5 := Lib.hid (row_kept Z5.out hb4)
                        refine hK _ _ (row_of _ _ _ D4.out.rm) ?_
                        clear hK K hb4
                        refine wpAnyH_take (i := 3) (v := .tuple #[.agg (nat20 q), .agg (nat20 r)]) rfl (by kernel_rfl) (by kernel_rfl) (by kernel_rfl) (fun _ _ _ h => h) (Or.inl ⟨by rfl, fun _ _ => by go_simp⟩) (row_of _ _ _ D4.out.rm) ?_
                        refine wpAnyH_take (i := 4) (v := .agg (nat20 q)) rfl (by kernel_rfl) (by kernel_rfl) (by kernel_rfl) (fun _ _ _ h => h) (Or.inl ⟨by rfl, fun _ _ => by go_simp⟩) (row_of _ _ _ D4.out.rm) ?_
                        refine wpAnyH_take (i := 5) (v := .agg (nat20 r)) rfl (by kernel_rfl) (by kernel_rfl) (by kernel_rfl) (fun _ _ _ h => h) (Or.inl ⟨by rfl, fun _ _ => by go_simp⟩) (row_of _ _ _ D4.out.rm) ?_
                        refine wpAnyH_all (rs := [8]) (by kernel_rfl) (by simp) ?_
                        have T0 := Lib.hid (DigTwo.mk D4.out.rm Z4.out Z5.out NN.out L4.out L5.out D4.out.bl)
                        have gg := row_of _ _ _ T0.out.rq
                        refine held_store rfl rfl 58 _ _ rfl g4 _ rfl rfl 58 _ gg (by kernel_rfl) (by kernel_rfl) (by kernel_rfl) (row_of _ _ _ (T0.out.set4 q).rm) ?_ ?_
                        · have T1 := Lib.hid (T0.out.set4 q)
                          generalize w4.setRow g4 (nat20 q) = wy at T1 ⊢
                          clear gg
                          refine wpAnyH_all (rs := [9]) (by kernel_rfl) (by simp) ?_
                          have gg := row_of _ _ _ T1.out.rr
                          refine held_store rfl rfl 58 _ _ rfl g5 _ rfl rfl 58 _ gg (by kernel_rfl) (by kernel_rfl) (by kernel_rfl) (row_of _ _ _ (T1.out.set5 r).rm) ?_ ?_
                          · have T2 := Lib.hid (T1.out.set5 r)
                            generalize wy.setRow g5 (nat20 r) = wz at T2 ⊢
                            clear gg
                            refine wpAnyH_done (by kernel_rfl) ?_ _
                            simp only [Act.put, List.setIfInBounds_toArray]
                            go_wp2_with fail
                            go_meet
                            exact ⟨g4, g5, q, r, rfl, rfl, T2, hqq, hrr, VQ, VR⟩
                          · exact AllHeld.nil
                        · exact AllHeld.nil
                      · exact AllHeld.nil
                    · exact AllHeld.nil
                  · exact AllHeld.nil
              · exact AllHeld.nil
        case rest =>
          obtain ⟨g4, g5, q, r, rfl, rfl, T0, hqq, hrr, VQ, VR⟩ := hcut
          have e10 : val (ofD 10) 20 = 10 := ofD_val 10 (by decide) (by decide)
          have vq := VQ.out
          have vr := VR.out
          rw [e10] at vq vr
          have NX := Lib.hid (A0.out.next GO.out hqq hrr vq vr)
          have r0 := digit_lt r hrr (by omega)
          have rb := (hrr 0 (by omega)).1
          have h10 : r 0 = 0 ∨ r 0 = 1 ∨ r 0 = 2 ∨ r 0 = 3 ∨ r 0 = 4 ∨ r 0 = 5 ∨ r 0 = 6 ∨ r 0 = 7 ∨ r 0 = 8 ∨ r 0 = 9 := by omega
          have gq := row_of _ _ _ T0.out.rq
          have gM := row_of _ _ _ T0.out.rm
          have c0 := T0.out.rr.cell (i := 0) (by omega)
          have sh := A0.out.short GO.out
          have nd := nDigits_le (val n 20).toNat 97 (by decide) (small_nat hv.2)
          have SH := Lib.hid sh
          have sl : 1 + s.length ≤ 9223372036854775807 := by omega
          clear sh nd
          simp only [dig] at c0
          have NX := NX.out
          have A0 := Lib.hid A0
          clear e10 vq vr r0 rb VQ VR
          rcases h10 with hd | hd | hd | hd | hd | hd | hd | hd | hd | hd
          all_goals
            rw [hd] at c0 NX
            have NX := Lib.hid NX
            clear hd
            go_wp2_with (first | (with_reducible refine wpList_load_row rfl 58 _ rfl g4 rfl 58 _ (0, 0) _ gq Tryd.underlying58 rfl (by kernel_rfl) ?_) | (with_reducible refine wpList_store_row rfl 58 _ _ rfl w.heap.size _ rfl rfl 58 _ gM (by kernel_rfl) (by kernel_rfl) (by kernel_rfl) ?_))
            simp only [Act.put, List.setIfInBounds_toArray, List.set_cons_succ, List.set_cons_zero]
            go_roundw
            case rel => exact ⟨q, _, by first | rfl | simp, T0.out.setM q, NX.out⟩
            case measure => have sh := SH.out; simp [strLen]; omega
      · rw [decide_eq_false hgo]
        have hd := A0.out.done hgo
        go_wp2_with fail
        go_ret
        exact ⟨by rw [hd]; rfl, HD.out.bl⟩

end Go.Proofs.YtefkabkncmflpaaDoor
