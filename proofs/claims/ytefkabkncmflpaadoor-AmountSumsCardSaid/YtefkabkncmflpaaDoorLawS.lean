/-
  Shares: what the two answer of one list; the law AmountSplits.
-/
import Derived.Test.YtefkabkncmflpaaDoorOwnA
import Derived.Test.YtefkabkncmflpaaDoorSplB
import Derived.Test.YtefkabkncmflpaaDoorWakes
namespace Go.Proofs.YtefkabkncmflpaaDoor
open Go.RowKit Go.Sort Go.Shelf

/-- A list of K words G, nil where it is empty, above B. -/
def RowAt (w : World) (B K : Nat) (G : Nat → Int) (A : Option Addr) : Prop := K = 0 ∨ ∃ g, A = some ⟨g, 0, none⟩ ∧ B ≤ g ∧ w.rowIs g 2 K fun i => .int .i64 (G i)
theorem RowAt.kept {w w' : World} {B K : Nat} {G : Nat → Int} {A : Option Addr} (h : RowAt w B K G A) (hb : Below w.heap.size w w') : RowAt w' B K G A := by
  rcases h with h | ⟨g, h1, h2, h3⟩
  · exact .inl h
  · exact .inr ⟨g, h1, h2, row_kept h3 hb⟩
/-- A list of K words G as it reads. -/
def CellsAt (w : World) (K : Nat) (G : Nat → Int) (A : Option Addr) : Prop := K = 0 ∨ ∃ ad, A = some ad ∧ ∀ i, i < K → w.cell? (ad.add i) = some (.int .i64 (G i))
theorem RowAt.cells {w : World} {B K : Nat} {G : Nat → Int} {A : Option Addr} (h : RowAt w B K G A) : CellsAt w K G A := by
  rcases h with h | ⟨g, h1, h2, h3⟩
  · exact .inl h
  · exact .inr ⟨_, h1, fun i hi => by rw [add_head]; exact h3.cell hi⟩
/-- A list of K words G behind a call, and its error. -/
def Res (w : World) (K : Nat) (G : Nat → Int) (er : Int) (e : Ending) (w' : World) : Prop :=
  ∃ A c, e = .returned (.tuple #[.slice A K c, .int .i64 er]) ∧ RowAt w' w.heap.size K G A ∧ Below w.heap.size w w'
theorem res_none {w w' : World} {G : Nat → Int} {er : Int} {e : Ending} (h : e = .returned (.tuple #[.slice none 0 0, .int .i64 er]) ∧ w = w') : Res w 0 G er e w' := by
  obtain ⟨rfl, rfl⟩ := h
  exact ⟨none, 0, rfl, .inl rfl, Below.refl _ _⟩

/-- Where the list lies. -/
def Lies (w : World) (g n : Nat) (wt : Nat → Int) : Prop := g < w.heap.size ∧ ∀ i, i < n → w.cell? ⟨g, i, none⟩ = some (.int .i64 (wt i))
theorem WIn.at_ {w : World} {A : Option Addr} {n cw : Nat} {wt : Nat → Int} (h : WIn w A n cw wt) (hn : 0 < n) : ∃ ad, A = some ad ∧ ad.block < w.heap.size ∧ ∀ i, i < n → w.cell? (ad.add i) = some (.int .i64 (wt i)) := by
  rcases h with ⟨-, h, -⟩ | ⟨ad, rfl, -, hc⟩
  · omega
  · refine ⟨ad, rfl, ?_, hc⟩
    apply Classical.byContradiction
    intro hb
    have h1 := hc 0 hn
    rw [World.cell?, add_block, Array.getElem?_eq_none (by omega)] at h1
    cases h1
theorem WIn.kept {w w' : World} {A : Option Addr} {n cw : Nat} {wt : Nat → Int} (h : WIn w A n cw wt) (hb : Below w.heap.size w w') : WIn w' A n cw wt := by
  rcases Nat.eq_zero_or_pos n with h0 | h0
  · subst h0
    rcases h with ⟨h1, h2, h3⟩ | ⟨ad, h1, h2, -⟩
    · exact .inl ⟨h1, h2, h3⟩
    · exact .inr ⟨ad, h1, h2, fun i hi => by omega⟩
  · obtain ⟨ad, rfl, hl, hc⟩ := h.at_ h0
    rcases h with ⟨-, h2, -⟩ | ⟨ad', -, h2, -⟩
    · omega
    · exact .inr ⟨ad, rfl, h2, fun i hi => by rw [hb.cell (p := ad.add i) (by rw [add_block]; exact hl)]; exact hc i hi⟩

/-- Both answer the same list and the same error. -/
def Both (v : Int) (n : Nat) (wt : Nat → Int) (K : Nat) (G : Nat → Int) (er : Int) : Prop :=
  (∀ w g c, Lies w g n wt → Calls Tryd.prog 20 #[.int .i64 v, .slice (some ⟨g, 0, none⟩) n c] w (Res w K G er)) ∧
  (∀ w A cw, WIn w A n cw wt → Calls Tryd.prog 22 #[.int .i64 v, .slice A n cw] w (Res w K G er))

theorem both_long (v : Int) (n : Nat) (wt : Nat → Int) (hn : n = 0 ∨ 1024 < n) (hn2 : n ≤ 9223372036854775807) : Both v n wt 0 wt 3 :=
  ⟨fun w _g c _ => (split_long v _ n c w hn hn2).mono fun _ _ h => res_none h, fun w A cw _ => (refSplit_long v A n cw w hn hn2).mono fun _ _ h => res_none h⟩

/-- The first that is refused. -/
theorem wt_first (wt : Nat → Int) (n : Nat) : WtOk wt n ∨ ∃ j, j < n ∧ WtOk wt j ∧ (wt j < 0 ∨ 1000000000 < wt j) := by
  induction n with
  | zero => exact .inl fun i hi => by omega
  | succ n ih =>
    rcases ih with h | ⟨j, h1, h2, h3⟩
    · by_cases c : 0 ≤ wt n ∧ wt n ≤ 1000000000
      · refine .inl fun i hi => ?_
        by_cases e : i = n
        · subst e; exact c
        · exact h i (by omega)
      · exact .inr ⟨n, by omega, h, by omega⟩
    · exact .inr ⟨j, by omega, h2, h3⟩

theorem both_weights (v : Int) (n j : Nat) (wt : Nat → Int) (hn0 : 0 < n) (hn : n ≤ 1024) (hj : j < n) (hok : WtOk wt j) (hb : wt j < 0 ∨ 1000000000 < wt j) : Both v n wt 0 wt 2 :=
  ⟨fun w g c h => (split_weights v wt g n c w hn0 hn (weigh_no wt g n c j w hn h.2 hj hok hb)).mono fun _ _ h => res_none h,
   fun w A cw h => by
    obtain ⟨ad, rfl, -, hc⟩ := h.at_ hn0
    exact (refSplit_weights v wt ad n cw j w hn0 hn hc hj hok hb).mono fun _ _ h => res_none h⟩

theorem both_total (v : Int) (n : Nat) (wt : Nat → Int) (hn0 : 0 < n) (hn : n ≤ 1024) (hok : WtOk wt n) (hb : sumTo wt n = 0 ∨ v < -1000000000000000 ∨ 1000000000000000 < v) : Both v n wt 0 wt 2 := by
  refine ⟨fun w g c h => ?_, fun w A cw h => ?_⟩
  · have hg := weigh_yes wt g n c w hn h.2 hok
    by_cases z : sumTo wt n = 0
    · rw [z] at hg
      exact (split_weights v wt g n c w hn0 hn hg).mono fun _ _ h => res_none h
    · have s0 := sum_bd hok n (Nat.le_refl _) hn
      rw [decide_eq_true (by omega)] at hg
      exact (split_total v _ g n c w hn0 hn (hb.resolve_left z) hg).mono fun _ _ h => res_none h
  · obtain ⟨ad, rfl, -, hc⟩ := h.at_ hn0
    exact (refSplit_total v wt ad n cw w hn0 hn hc hok hb).mono fun _ _ h => res_none h

theorem both_ok (v : Int) (n : Nat) (wt : Nat → Int) (hn0 : 0 < n) (hn : n ≤ 1024) (hok : WtOk wt n) (hs : sumTo wt n ≠ 0) (v0 : -1000000000000000 ≤ v) (v1 : v ≤ 1000000000000000) : ∃ G, Both v n wt n G 0 := by
  obtain ⟨m, rfl⟩ : ∃ m, n = m + 1 := ⟨n - 1, by omega⟩
  have s0 := sum_bd hok (m + 1) (Nat.le_refl _) hn
  obtain ⟨S, hS⟩ : ∃ S, sumTo wt (m + 1) = S := ⟨_, rfl⟩
  rw [hS] at hs s0
  have S0 : 0 < S := by omega
  obtain ⟨p, ps, pB, pS⟩ := sorted_exists (m := m) fun i => over (size v) S wt i.val
  refine ⟨fun i => signOf v (got (size v) S wt p (size v - sumTo (part (size v) S wt) (m + 1)).toNat i), fun w g c h => ?_, fun w A cw h => ?_⟩
  · refine (split_ok (greatest_any hn) v S wt g (m + 1) c rfl w hn v0 v1 h.1 h.2 hok hS S0).mono ?_
    rintro e w' ⟨p', L, rfl, e1, e2, e3, e4, e5, e6, e7⟩
    refine ⟨_, _, rfl, .inr ⟨_, rfl, Nat.le_refl _, e3.congr fun i hi => ?_⟩, e7⟩
    have hL : (size v - sumTo (part (size v) S wt) (m + 1)).toNat = L := by omega
    rw [hL]
    unfold got
    rw [← taken_one pB pS e5 e6 L i e2]
  · obtain ⟨ad, rfl, hl, hc⟩ := h.at_ hn0
    refine (refSplit_parts p v S wt ad (m + 1) cw rfl pB pS w hn0 hn v0 v1 hl hc hok hS S0).mono ?_
    rintro e w' ⟨L, g, rfl, e1, e2, e3, e4, e5⟩
    refine ⟨_, _, rfl, .inr ⟨_, rfl, e3, e4.congr fun i hi => ?_⟩, e5⟩
    have hL : (size v - sumTo (part (size v) S wt) (m + 1)).toNat = L := by omega
    rw [hL]

theorem both_any (v : Int) (n : Nat) (wt : Nat → Int) (hn2 : n ≤ 9223372036854775807) : ∃ K G er, K ≤ 9223372036854775807 ∧ Both v n wt K G er := by
  by_cases h : n = 0 ∨ 1024 < n
  · exact ⟨0, wt, 3, by omega, both_long v n wt h hn2⟩
  · rcases wt_first wt n with hok | ⟨j, h1, h2, h3⟩
    · by_cases hb : sumTo wt n = 0 ∨ v < -1000000000000000 ∨ 1000000000000000 < v
      · exact ⟨0, wt, 2, by omega, both_total v n wt (by omega) (by omega) hok hb⟩
      · obtain ⟨G, h⟩ := both_ok v n wt (by omega) (by omega) hok (by omega) (by omega) (by omega)
        exact ⟨n, G, 0, hn2, h⟩
    · exact ⟨0, wt, 2, by omega, both_weights v n j wt (by omega) (by omega) h1 h2 h3⟩

theorem same_res (K : Nat) (G : Nat → Int) (A B : Option Addr) (c d : Nat) (w : World) (hK : K ≤ 9223372036854775807) (hA : CellsAt w K G A) (hB : CellsAt w K G B) :
    Calls Tryd.prog 23 #[.slice A K c, .slice B K d] w fun e w' => e = .returned (.bool true) ∧ Below w.heap.size w w' := by
  by_cases h0 : K = 0
  · subst h0; exact same_none A B c d w
  · obtain ⟨g, rfl, hg⟩ := hA.resolve_left h0
    obtain ⟨h, rfl, hh⟩ := hB.resolve_left h0
    exact same_any g h K c d G G w hK hg hh fun _ _ => rfl

set_option maxRecDepth 100000 in
set_option maxHeartbeats 2000000 in
theorem splits_law (v : Int) (A : Option Addr) (n cw : Nat) (wt : Nat → Int) (w : World) (hn2 : n ≤ 9223372036854775807) (h : WIn w A n cw wt) :
    Calls Tryd.prog 6 #[.int .i64 v, .slice A n cw] w fun e w' => e = .returned (.bool true) ∧ Below w.heap.size w w' := by
  obtain ⟨K, G, er, hK, hB⟩ := both_any v n wt hn2
  have HB := Lib.hid hB
  have HW := Lib.hid h
  have HK := Lib.hid hK
  clear hB h hK hn2
  go_enter Tryd.func6, Tryd.ntmps6
  go_wp2_with (first
    | (go_at_call 11; refine (wakes_any _).mono ?_; rintro e w1 ⟨rfl, hb1⟩; have W1 := Lib.hid (HW.out.kept hb1))
    | (go_at_call 21; refine (own_any A n cw wt _ W1.out).mono ?_; rintro e w2 ⟨g2, c2, rfl, l2, m2, k2, hb2⟩; have L2 : Hid (Lies w2 g2 n wt) := Lib.hid ⟨m2, k2⟩; have W2 := Lib.hid (W1.out.kept hb2); clear l2 m2 k2)
    | (go_at_call 20; refine (HB.out.1 _ g2 c2 L2.out).mono ?_; rintro e w3 ⟨A3, c3, rfl, r3, hb3⟩; have R3 := Lib.hid r3; have W3 := Lib.hid (W2.out.kept hb3); clear r3)
    | (go_at_call 22; refine (HB.out.2 _ A cw W3.out).mono ?_; rintro e w4 ⟨A4, c4, rfl, r4, hb4⟩; have R4 := Lib.hid r4; have R34 := Lib.hid (R3.out.kept hb4); clear r4)
    | (go_at_call 23; refine (same_res K G A3 A4 c3 c4 _ HK.out R34.out.cells R4.out.cells).mono ?_; rintro e w5 ⟨rfl, hb5⟩))
  go_ret
  refine ⟨by simp, ?_⟩
  repeat (first | exact Below.refl _ _ | refine below_then ?_ (by assumption))

end Go.Proofs.YtefkabkncmflpaaDoor
