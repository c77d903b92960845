/-
  The law AmountOwn.
-/
import Derived.Test.YtefkabkncmflpaaDoorLawS
namespace Go.Proofs.YtefkabkncmflpaaDoor
open Go.RowKit Go.Sort Go.Shelf

theorem WIn.cells {w : World} {A : Option Addr} {n cw : Nat} {wt : Nat → Int} (h : WIn w A n cw wt) : CellsAt w n wt A := by
  rcases Nat.eq_zero_or_pos n with h0 | h0
  · exact .inl h0
  · obtain ⟨ad, e, -, hc⟩ := h.at_ h0
    exact .inr ⟨ad, e, hc⟩
theorem WIn.bytes {w : World} {A : Option Addr} {n cw : Nat} {wt : Nat → Int} (h : WIn w A n cw wt) : n * 8 ≤ 140737488351232 := by
  rcases h with ⟨-, h, -⟩ | ⟨ad, -, h, -⟩ <;> omega

/-- The list with its guard behind it. -/
structure Kept (w : World) (g n : Nat) (wt : Nat → Int) : Prop where
  lt : g < w.heap.size
  c : ∀ i, i < n → w.cell? ⟨g, i, none⟩ = some (.int .i64 (wt i))
  l : w.cell? ⟨g, n, none⟩ = some (.int .i64 77)
theorem Kept.keep {w w' : World} {g n : Nat} {wt : Nat → Int} (h : Kept w g n wt) (hb : Below w.heap.size w w') : Kept w' g n wt :=
  ⟨Nat.lt_of_lt_of_le h.lt hb.size, fun i hi => by rw [hb.cell (p := ⟨g, i, none⟩) h.lt]; exact h.c i hi, by rw [hb.cell (p := ⟨g, n, none⟩) h.lt]; exact h.l⟩
theorem Kept.set {w : World} {g n : Nat} {wt : Nat → Int} (h : Kept w g n wt) {p : Addr} (hp : p.block ≠ g) (v : Value) : Kept (w.setCell p v) g n wt :=
  ⟨by rw [World.size_setCell]; exact h.lt, fun i hi => by rw [World.cell?_setCell_other _ _ _ _ (fun e => hp (by rw [e]))]; exact h.c i hi, by rw [World.cell?_setCell_other _ _ _ _ (fun e => hp (by rw [e]))]; exact h.l⟩
theorem Kept.cells {w : World} {g n : Nat} {wt : Nat → Int} (h : Kept w g n wt) : CellsAt w n wt (some ⟨g, 0, none⟩) := .inr ⟨_, rfl, fun i hi => by rw [add_head]; exact h.c i hi⟩
theorem kept_of {w : World} {base g n c : Nat} {wt : Nat → Int} (h : w.ownsRow base 2 1 (.slice (some ⟨g, 0, none⟩) (n + 1) c) (n + 1) (((List.range n).map fun i => Value.int .i64 (wt i)) ++ [.int .i64 77])) : base ≤ g ∧ n + 1 ≤ c ∧ Kept w g n wt := by
  have q6 := h.cells (g := g) rfl
  obtain ⟨g', cap, cur, e, q5, q7, q8, -, -, -⟩ := h.2.resolve_left (fun e => by cases e.1)
  injection e with e e2 e3
  injection e with e
  injection e with e
  subst e e3
  refine ⟨q5, q8, (Array.getElem?_eq_some_iff.1 q7).1, fun i hi => ?_, ?_⟩
  · have := q6 i (.int .i64 (wt i)) (by rw [List.getElem?_append_left (by simpa using hi)]; simp [hi])
    rw [add_head] at this
    exact this
  · have := q6 n (.int .i64 77) (by rw [List.getElem?_append_right (by simp)]; simp)
    rw [add_head] at this
    exact this

theorem new77 (w : World) : ∀ j u, [Value.int .i64 77][j]? = some u → (w.alloc (.cells #[.int .i64 77] 2)).cell? ((⟨w.heap.size, 0, none⟩ : Addr).add j) = some u := fun j u hu => by
  match j, hu with
  | 0, hu =>
    rw [add_head, cell_of_row _ _ 0 _ _ _ (heap_alloc_new w _)]
    exact hu
theorem RowAt.mono {w : World} {B B' K : Nat} {G : Nat → Int} {A : Option Addr} (h : RowAt w B K G A) (hB : B' ≤ B) : RowAt w B' K G A := by
  rcases h with h | ⟨g, h1, h2, h3⟩
  · exact .inl h
  · exact .inr ⟨g, h1, by omega, h3⟩

/-- What the marking of the first shares leaves. -/
structure OwnS (w : World) (n K g : Nat) (wt G : Nat → Int) (A1 A2 : Option Addr) (wr : World) : Prop where
  bl : Below w.heap.size w wr
  ws : Kept wr g n wt
  s2 : RowAt wr 0 K G A2
  s1 : ∃ F, RowAt wr w.heap.size K F A1
  d1 : ∀ g1, A1 = some ⟨g1, 0, none⟩ → K ≠ 0 → g1 ≠ g ∧ ∀ g2, A2 = some ⟨g2, 0, none⟩ → g1 ≠ g2
theorem OwnS.set {w : World} {n K g g1 : Nat} {wt G : Nat → Int} {A2 : Option Addr} {wr : World} (h : OwnS w n K g wt G (some ⟨g1, 0, none⟩) A2 wr) (hK : K ≠ 0) (i : Nat) (v : Int) :
    OwnS w n K g wt G (some ⟨g1, 0, none⟩) A2 (wr.setCell ⟨g1, i, none⟩ (.int .i64 v)) := by
  obtain ⟨F, hF⟩ := h.s1
  obtain ⟨g', e, hg, hr⟩ := hF.resolve_left hK
  injection e with e
  injection e with e
  subst e
  obtain ⟨n1, n2⟩ := h.d1 g1 rfl hK
  refine ⟨h.bl.setCell hg _, h.ws.set n1 _, ?_, ⟨put F i v, .inr ⟨g1, rfl, hg, (hr.set i _).congr fun k _ => by unfold put; split <;> rfl⟩⟩, h.d1⟩
  rcases h.s2 with c | ⟨g2, c1, c2, c3⟩
  · exact .inl c
  · exact .inr ⟨g2, c1, c2, c3.setOther (fun e => n2 g2 c1 e.symm) _⟩

set_option maxRecDepth 100000 in
set_option maxHeartbeats 2000000 in
theorem own_law (v : Int) (A : Option Addr) (n cw : Nat) (wt : Nat → Int) (w : World) (hn2 : n ≤ 9223372036854775807) (h : WIn w A n cw wt) :
    Calls Tryd.prog 10 #[.int .i64 v, .slice A n cw] w fun e w' => e = .returned (.bool true) ∧ Below w.heap.size w w' := by
  obtain ⟨K, G, er, hK, hB⟩ := both_any v n wt hn2
  obtain ⟨i0, hi0, hz0, hz1, hz2⟩ := info_parts info2
  have HB := Lib.hid hB
  have HW := Lib.hid h
  have HK := Lib.hid hK
  have H2 := Lib.hid hn2
  have H8 := Lib.hid h.bytes
  clear hB h hK hn2
  go_enter Tryd.func10, Tryd.ntmps10
  go_upto_region 4 with (first
    | (go_at_call 11; refine (wakes_any _).mono ?_; rintro e w1 ⟨rfl, hb1⟩; have W1 := Lib.hid (HW.out.kept hb1))
    | (go_at_call 21; refine (own_row A n cw wt _ W1.out).mono ?_; rintro e w2 ⟨g2, c2, rfl, o2, hb2⟩; have O2 := Lib.hid (o2.alloc (.cells #[.int .i64 77] 2)); have B2 := Lib.hid (hb2.alloc hb2.size (.cells #[.int .i64 77] 2)); have l2 := (own_cells o2).2.1; have L2 := Lib.hid l2; have N2 := Lib.hid (new77 w2); have LB := Lib.hid (own_cells o2).1; have S2 := Lib.hid hb2.size; clear o2 hb2 l2)
    | (at_builtin; refine wpList_append_own_at _ rfl (.tmp 16) (.tmp 17) _ rfl w1.heap.size 2 i0 _ 1 8 Tryd.underlying36 hi0 hz0 hz1 hz2 rfl (by omega) (.slice (some ⟨g2, 0, none⟩) n c2) n _ rfl O2.out ⟨w2.heap.size, 0, none⟩ 1 1 [.int .i64 77] rfl (by simp) N2.out (by simp [Value.oneCell']) (by have := H8.out; unfold maxLen; omega) (by have := H8.out; omega) (by have := S2.out; rw [World.size_alloc]; omega) ?_; intro v3 w3 q1 q2 q3 q4))
  obtain ⟨g, cap, cur, rfl, -, -, q8, -, -, -⟩ := q1.2.resolve_left (fun e => by have := (q3.1 e.1).1; cases this)
  obtain ⟨k1, k2, k3⟩ := kept_of q1
  have B3 : Hid (Below w1.heap.size w1 w3) := Lib.hid (B2.out.grown q2 B2.out.size fun k hk => by
    have := LB.out
    simp [Value.ownBlock] at hk
    omega)
  have W3 := Lib.hid (W1.out.kept B3.out)
  have K3 := Lib.hid k3
  have L3 : Hid (Lies w3 g n wt) := Lib.hid ⟨k3.lt, k3.c⟩
  have hcap : (n : Int) ≤ cap := by omega
  have hcapN : n ≤ cap := by omega
  have B13 := Lib.hid (below_then hb1 B3.out)
  clear q1 q2 q3 q4 q8 k1 k2 k3 B2 LB S2 O2 N2 L2 hb1 B3 W1 hi0 hz0 hz1 hz2
  go_wp2_with (first
    | (go_at_call 20; refine (HB.out.1 _ g cap L4.out).mono ?_; rintro e w5 ⟨A5, c5, rfl, r5, hb5⟩; have R5 := Lib.hid r5; clear r5)
    | (go_at_call 20; refine (HB.out.1 _ g cap L3.out).mono ?_; rintro e w4 ⟨A4, c4, rfl, r4, hb4⟩; have R4 := Lib.hid r4; have K4 := Lib.hid (K3.out.keep hb4); have L4 : Hid (Lies w4 g n wt) := Lib.hid ⟨K4.out.lt, K4.out.c⟩; clear r4))
  have OS : Hid (OwnS w n K g wt G A4 A5 w5) := Lib.hid ⟨below_then (below_then B13.out hb4) hb5, K4.out.keep hb5, R5.out.mono (Nat.zero_le _), ⟨G, (R4.out.kept hb5).mono B13.out.size⟩, fun g1 e hK0 => by
    obtain ⟨g1', e1, e2, e3⟩ := R4.out.resolve_left hK0
    rw [e] at e1
    injection e1 with e1
    injection e1 with e1
    subst e1
    have l3 := K3.out.lt
    refine ⟨by omega, fun g2 e' => ?_⟩
    obtain ⟨g2', f1, f2, f3⟩ := R5.out.resolve_left hK0
    rw [e'] at f1
    injection f1 with f1
    injection f1 with f1
    subst f1
    have l4 := e3.lt
    omega⟩
  clear R4 R5 K3 K4 L3 L4 W3 B13 hb4 hb5
  go_loopw [39] (fun t39 wr => ∃ i : Nat, i ≤ K ∧ t39 = .int .i64 i ∧ Hid (OwnS w n K g wt G A4 A5 wr)) (fun t39 _ => K - (intOf t39).toNat)
  case atStart => exact ⟨0, by omega, rfl, OS⟩
  case round =>
    obtain ⟨i, hi, rfl, hO⟩ := hrel
    by_cases hlt : i < K
    · obtain ⟨F, hF⟩ := hO.out.s1
      obtain ⟨g1, rfl, hg1, hr⟩ := hF.resolve_left (by omega)
      have c1 := hr.cell hlt
      have f1 := hr.frozen i
      have SO := Lib.hid (hO.out.set (by omega) i (-1))
      have hij : (i : Int) < K := by omega
      have HKK := HK.out
      clear hF hr hO OS
      go_wp2_with fail
      go_roundw
      case rel => exact ⟨i + 1, by omega, by go_num, SO⟩
      case measure => simp [intOf]; omega
    · have hnl : ¬ (i : Int) < K := by omega
      go_wp2_with (first
        | (go_at_call 22; refine (HB.out.2 _ A cw (HW.out.kept hO.out.bl)).mono ?_; rintro e w6 ⟨A6, c6, rfl, r6, hb6⟩; have K6 := Lib.hid (hO.out.ws.keep hb6); have c77 := K6.out.l; have CW := Lib.hid K6.out.cells; have CL := Lib.hid ((HW.out.kept (below_then hO.out.bl hb6)).cells); have R5 := Lib.hid (hO.out.s2.kept hb6); have R6 := Lib.hid r6; clear r6)
        | (go_at_call 23; (with_reducible refine (same_res n wt (some ⟨g, 0, none⟩) A cap cw _ H2.out CW.out CL.out).mono ?_); rintro e w7 ⟨rfl, hb7⟩; have T5 := Lib.hid ((R5.out.kept hb7).cells); have T6 := Lib.hid ((R6.out.kept hb7).cells))
        | (go_at_call 23; (with_reducible refine (same_res K G A5 A6 c5 c6 _ HK.out T5.out T6.out).mono ?_); rintro e w8 ⟨rfl, hb8⟩))
      go_ret
      exact ⟨by simp, below_then (below_then (below_then hO.out.bl hb6) hb7) hb8⟩

end Go.Proofs.YtefkabkncmflpaaDoor
