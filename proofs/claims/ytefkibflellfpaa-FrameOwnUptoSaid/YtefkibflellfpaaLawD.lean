/-
  The law FrameOwn.
-/
import Derived.Test.YtefkibflellfpaaLawC
import Derived.Test.YtefkibflellfpaaMemK
import Derived.StillTailTactics
namespace Go.Proofs.Ytefkibflellfpaa
open Go.RowKit

/-- Bytes that may be marked, in blocks from B to E. -/
def Spot (B E : Nat) (w : World) (A : Option Addr) (z : Nat) : Prop := z = 0 ∨ ∃ g cur, A = some ⟨g, 0, none⟩ ∧ B ≤ g ∧ g < E ∧ w.heap[g]? = some (.cells cur 5 (0, 0)) ∧ z ≤ cur.size ∧ ∀ j, j < z → ∃ x, cur[j]? = some (.int .u8 x)
theorem Row.spot {B : Nat} {w : World} {A : Option Addr} {c : Nat} {L : List Int} (h : Row w B A c L) : Spot B w.heap.size w A L.length := by
  rcases h.2 with ⟨_, h0⟩ | ⟨g, cap, cur, e, h1, h2, h3, h4, h5, h6⟩
  · exact .inl h0
  · injection e with e1 e2 e3
    subst e1
    refine .inr ⟨g, cur, rfl, h1, (Array.getElem?_eq_some_iff.1 h2).1, h2, by omega, fun j hj => ?_⟩
    have h7 : (vals L)[j]? = some (.int .u8 L[j]) := vals_of (List.getElem?_eq_getElem hj)
    rw [← h6, List.getElem?_take] at h7
    split at h7
    · exact ⟨L[j], by rw [← h7]; simp⟩
    · cases h7
theorem Spot.kept {B E F : Nat} {w w' : World} {A : Option Addr} {z : Nat} (h : Spot B E w A z) (hb : Below F w w') (hF : E ≤ F) : Spot B E w' A z := by
  rcases h with h | ⟨g, cur, e, h1, h2, h3, h4⟩
  · exact .inl h
  · exact .inr ⟨g, cur, e, h1, h2, by rw [hb.block g (by omega), h3], h4⟩
theorem Spot.set {B E : Nat} {w : World} {A : Option Addr} {z g k : Nat} {y : Int} {cur : Array Value} (h : Spot B E w A z) (_hg : w.heap[g]? = some (.cells cur 5 (0, 0))) : Spot B E (w.setCell ⟨g, k, none⟩ (.int .u8 y)) A z := by
  rcases h with h | ⟨g', cur', e, h1, h2, h3, h4, h5⟩
  · exact .inl h
  · by_cases hgg : g' = g
    · subst hgg
      refine .inr ⟨g', cur'.setIfInBounds k (.int .u8 y), e, h1, h2, ?_, by simpa using h4, fun j hj => ?_⟩
      · simp [World.setCell, Array.getElem?_modify, h3]
      · obtain ⟨x, hx⟩ := h5 j hj
        by_cases hjk : k = j
        · subst hjk
          exact ⟨y, by rw [Array.getElem?_setIfInBounds_self_of_lt (by omega)]⟩
        · exact ⟨x, by rw [Array.getElem?_setIfInBounds_ne hjk, hx]⟩
    · refine .inr ⟨g', cur', e, h1, h2, ?_, h4, h5⟩
      rw [Below.heap_setCell w ⟨g, k, none⟩ _ g' hgg, h3]

/-- While answers are marked: the list stands, its bytes are bytes, all else is as it was. -/
structure Mk (B E : Nat) (w0 : World) (A : Option Addr) (c : Nat) (T : List Sl) (w : World) : Prop where
  row : Srow w B A c T
  spots : ∀ s ∈ T, Spot B E w s.a s.l.length
  kp : Kp (fun b => b < B ∨ E ≤ b) w0 w
theorem Mk.at_ {B E : Nat} {w0 w : World} {A : Option Addr} {c k : Nat} {T : List Sl} {s : Sl} (h : Mk B E w0 A c T w) (hs : s ∈ T) (hk : k < s.l.length) :
    ∃ g x, s.a = some ⟨g, 0, none⟩ ∧ w.cell? ⟨g, k, none⟩ = some (.int .u8 x) ∧ w.frozen? ⟨g, k, none⟩ = false ∧ ∀ y, Mk B E w0 A c T (w.setCell ⟨g, k, none⟩ (.int .u8 y)) := by
  obtain ⟨g, cur, e, h1, h2, h3, h4, h5⟩ := (h.spots s hs).resolve_left (by omega)
  obtain ⟨x, hx⟩ := h5 k hk
  refine ⟨g, x, e, by simp [World.cell?, h3, hx], by simp [World.frozen?, h3], fun y => ⟨?_, fun t ht => (h.spots t ht).set h3, h.kp.set g k _ (by omega)⟩⟩
  refine ⟨h.row.1, ?_⟩
  rcases h.row.2 with hn | ⟨g', cap, cur', e1, k1, k2, k3⟩
  · exact .inl hn
  · refine .inr ⟨g', cap, cur', e1, k1, ?_, k3⟩
    rw [Below.heap_setCell w ⟨g, k, none⟩ _ g' ?_, k2]
    intro e
    have e' : g' = g := e
    subst e'
    rw [h3] at k2
    injection k2 with k2
    injection k2 with _ k2
    exact absurd k2 (by decide)

/-- Where frames that have been read lie. -/
def InB (B E : Nat) (A : Option Addr) (T : List Sl) : Prop := (∀ ad, A = some ad → B ≤ ad.block ∧ ad.block < E) ∧ ∀ s ∈ T, ∀ ad, s.a = some ad → B ≤ ad.block ∧ ad.block < E
theorem Frs.kp {B D E : Nat} {w w' : World} {A : Option Addr} {c m : Nat} {l : List (List Int)} {T : List Sl} {S : Nat → Prop} (h : Frs B w A c m l T) (hi : InB D E A T) (hk : Kp S w w') (hS : ∀ b, D ≤ b → b < E → S b) : Frs B w' A c m l T :=
  ⟨h.len, h.byt, own_kp h.row hk (fun ad ha => hS _ (hi.1 ad ha).1 (hi.1 ad ha).2), fun s hs => own_kp (h.rows s hs) hk (fun ad ha => hS _ (hi.2 s hs ad ha).1 (hi.2 s hs ad ha).2)⟩
theorem row_place {w : World} {B c k : Nat} {A : Option Addr} {L : List Int} {x : Int} (h : Row w B A c L) (hx : L[k]? = some x) : ∃ ad, A = some ad ∧ w.cell? (ad.add k) = some (.int .u8 x) := by
  rcases h.lies with e | ⟨ad, e, hc⟩
  · rw [e] at hx
    simp at hx
  · exact ⟨ad, e, hc k x hx⟩
theorem Mk.drew {B E : Nat} {w0 w : World} {A : Option Addr} {c : Nat} {T : List Sl} (h : Mk B E w0 A c T w) : Mk B E w0 A c T w.drew := ⟨h.row, h.spots, ⟨h.kp.os, h.kp.tape, h.kp.output, h.kp.size, h.kp.block⟩⟩
theorem lit_one (w : World) (x : Int) : Bys (w.alloc (.cells #[.int .u8 x] 5)) (some ⟨w.heap.size, 0, none⟩) [x] := (row_made w w.heap.size [x] _ rfl (by simp) (Nat.le_refl _)).lies
theorem high_run {w : World} {A : Option Addr} {L M : List Int} (h : Bys w A (L ++ M)) (N n c : Nat) (hN : (L ++ M).length = N) (hn : n ≤ N) (hc : N ≤ c) : ∀ W, (Instr.slice 22 (.slice A N c) none (some (.int .i64 (n : Int))) none).run Try.prog W = .ok (.slice A n c) W :=
  (slice_high h N n c hN hn hc).1

set_option maxRecDepth 100000 in
set_option maxHeartbeats 8000000 in
theorem own_law (A C : Option Addr) (L X : List Int) (n c m d : Nat) (w : World) (h : In w A L n c) (g : In w C X m d) (hn : n ≤ 1048576) (hm : m ≤ 1048576) :
    Calls Try.prog 8 #[.slice A n c, .slice C m d] w (AllTrue w) := by
  obtain ⟨p, hp⟩ : ∃ p, allL L = p := ⟨_, rfl⟩
  obtain ⟨z, hz⟩ : ∃ z, p.1.length = z := ⟨_, rfl⟩
  obtain ⟨f, hf⟩ : ∃ f, putP X = f := ⟨_, rfl⟩
  obtain ⟨x, hx⟩ : ∃ x, f.1.length = x := ⟨_, rfl⟩
  have HP := Lib.hid hp
  have HZ := Lib.hid hz
  have HF := Lib.hid hf
  have HX := Lib.hid hx
  have HI := Lib.hid h
  have HJ := Lib.hid g
  have HN := Lib.hid hn
  have HM := Lib.hid hm
  clear h g hn hm hp hz hf hx
  go_enter Try.func8, Try.ntmps8
  go_upto_region 4 with (first
    | (go_at_call 9; refine (wakes_on w _ (Below.refl _ _)).mono ?_; rintro e1 w1 ⟨rfl, b1⟩)
    | (go_at_call 11; (with_reducible refine (own_on w _ C X m d b3.out HJ.out.len (HJ.out.bys.kept b3.out) (by have := HM.out; omega)).mono ?_); rintro e4 w4 ⟨A4, c4, rfl, r4, k4, b4⟩; have s4 := Lib.hid k4.out.size; have R4 := Lib.hid (R3.out.kept k4.out (Nat.le_refl _)))
    | (go_at_call 11; (with_reducible refine (own_on w _ A L n c b1.out HI.out.len (HI.out.bys.kept b1.out) (by have := HN.out; omega)).mono ?_); rintro e2 w2 ⟨A2, c2, rfl, r2, k2, b2⟩; have s2 := Lib.hid k2.out.size)
    | (at_builtin; refine wpList_append_row _ rfl (.tmp 24) (.tmp 25) rfl w1.heap.size A2 c2 L [7] _ n 1 1 rfl rfl HI.out.len rfl (r2.out.alloc _) (lit_one w2 7) (by have := s2.out; rw [World.size_alloc]; omega) (by have := HI.out.len; have := HN.out; simp only [List.length_singleton]; omega) ?_; intro A3 c3 w3 r3 k3; have R3 := Lib.hid r3; have K3 := Lib.hid (((Below.refl w1.heap.size w2).alloc s2.out _).trans k3); have b3 := Lib.hid (below_then b1.out (k2.out.trans K3.out)); clear r3 k3)
    | (at_builtin; refine wpList_append_row _ rfl (.tmp 28) (.tmp 29) rfl w3.heap.size A4 c4 X [8] _ m 1 1 rfl rfl HJ.out.len rfl (r4.out.alloc _) (lit_one w4 8) (by have := s4.out; rw [World.size_alloc]; omega) (by have := HJ.out.len; have := HM.out; simp only [List.length_singleton]; omega) ?_; intro A5 c5 w5 r5 k5; have R5 := Lib.hid r5; have K5 := Lib.hid (((Below.refl w3.heap.size w4).alloc s4.out _).trans k5); have I5 := Lib.hid (R3.out.kept (k4.out.trans K5.out) (Nat.le_refl _)); have b5 := Lib.hid (b3.out.trans ((k4.out.trans K5.out).mono b3.out.size)); clear r5 k5))
  have HLn : (L ++ [7]).length = n + 1 := by rw [List.length_append, HI.out.len]; rfl
  have HXm : (X ++ [8]).length = m + 1 := by rw [List.length_append, HJ.out.len]; rfl
  have hcn : n + 1 ≤ c3 := by have := (own_cap I5.out).1; omega
  have hcm : m + 1 ≤ c5 := by have := (own_cap R5.out).1; omega
  have si := high_run I5.out.lies (n + 1) n c3 HLn (by omega) hcn
  have sb := high_run R5.out.lies (m + 1) m c5 HXm (by omega) hcm
  have T3 : Hid ((c3 : Int) ≤ 9223372036854775807) := Lib.hid (own_cap I5.out).2
  have T5 : Hid ((c5 : Int) ≤ 9223372036854775807) := Lib.hid (own_cap R5.out).2
  have U3 : Hid (n ≤ c3) := Lib.hid (by omega)
  have U5 : Hid (m ≤ c5) := Lib.hid (by omega)
  have P5 := Lib.hid I5.out.lies.left
  have Q5 := Lib.hid R5.out.lies.left
  clear b1 r2 k2 b2 s2 R3 K3 b3 r4 k4 b4 s4 R4 K5 HLn HXm hcn hcm
  go_upto_region 7 with (first
    | (go_at_call 15; (with_reducible refine (all_on w _ A3 L n c3 p HP.out z HZ.out (by have := HN.out; omega) b5.out ⟨HI.out.len, U3.out, T3.out, P5.out, HI.out.byt⟩).mono ?_); rintro e6 w6 ⟨A6, c6, T6, rfl, f6, k6, b6⟩; have P6 := Lib.hid (P5.out.kept k6.out); have Q6 := Lib.hid (Q5.out.kept k6.out))
    | (go_at_call 15; (with_reducible refine (all_on w _ A3 L n c3 p HP.out z HZ.out (by have := HN.out; omega) b6.out ⟨HI.out.len, U3.out, T3.out, P6.out, HI.out.byt⟩).mono ?_); rintro e7 w7 ⟨A7, c7, T7, rfl, f7, k7, b7⟩; have Q7 := Lib.hid (Q6.out.kept k7.out))
    | (go_at_call 19; (with_reducible refine (put_on w _ A5 X m c5 f HF.out x HX.out b7.out ⟨HJ.out.len, U5.out, T5.out, Q7.out, HJ.out.byt⟩).mono ?_); rintro e8 w8 ⟨A8, c8, rfl, r8, k8, b8⟩))
  have S5 := Lib.hid k6.out.size
  have S6 := Lib.hid k7.out.size
  have S7 := Lib.hid k8.out.size
  have K67 := Lib.hid (k7.out.trans (k8.out.mono S6.out))
  have K57 := Lib.hid (k6.out.trans (K67.out.mono S5.out))
  have X8 := Lib.hid r8.out
  have M8 : Hid (Mk w5.heap.size w6.heap.size w8 A6 c6 T6 w8) := Lib.hid ⟨f6.out.row.kept K67.out (Nat.le_refl _), fun s hs => (f6.out.rows s hs).spot.kept K67.out (Nat.le_refl _), Kp.refl _ _⟩
  have Z6 := Lib.hid f6.out.len
  have F8 := Lib.hid (f7.out.kept k8.out (Nat.le_refl _))
  have E7 : Hid (InB w6.heap.size w7.heap.size A7 T7) := Lib.hid ⟨own_in f7.out.row, fun s hs => own_in (f7.out.rows s hs)⟩
  have I8 := Lib.hid (I5.out.kept K57.out (Nat.le_refl _))
  have B8 := Lib.hid (R5.out.kept K57.out (Nat.le_refl _))
  have E8 := Lib.hid (own_in I5.out)
  have G8 := Lib.hid (own_in R5.out)
  have H8 := Lib.hid b8.out
  have hz9 : Hid (z ≤ 9223372036854775807) := Lib.hid (by have := own_cap f6.out.row; have := f6.out.len; omega)
  have hx9 : Hid (x ≤ 9223372036854775807) := Lib.hid (by have := own_cap r8.out; have := HX.out; omega)
  have hl9 : Hid (∀ s ∈ T6, s.l.length ≤ 9223372036854775807) := Lib.hid (fun s hs => by have := own_cap (f6.out.rows s hs); omega)
  clear I5 R5 P5 Q5 P6 Q6 Q7 f6 k6 b6 f7 k7 b7 r8 k8 b8
  go_wp2_with fail
  go_loopw [59] (fun t59 wr => ∃ i : Nat, i ≤ z ∧ t59 = .int .i64 i ∧ Hid (Mk w5.heap.size w6.heap.size w8 A6 c6 T6 wr)) (fun t59 _ => z - (intOf t59).toNat)
  case atStart => exact ⟨0, by omega, rfl, M8⟩
  case round =>
    obtain ⟨i, hi, rfl, hmk⟩ := hrel
    by_cases hlt : i < z
    · have hs := List.getElem?_eq_getElem (l := T6) (i := i) (by have := Z6.out; omega)
      generalize T6[i]'(by have := Z6.out; omega) = s at hs
      have HS := Lib.hid hs
      obtain ⟨ad, rfl, a0⟩ := lies_at hmk.out.row.lies hs
      have HQ9 := hl9.out s (List.mem_of_getElem? hs)
      obtain ⟨q, hq⟩ : ∃ q, s.l.length = q := ⟨_, rfl⟩
      have HQ := Lib.hid hq
      rw [hq] at a0 HQ9
      have HQ9' := Lib.hid HQ9
      have hz9' := hz9.out
      clear hs hq HQ9
      go_wp2_with fail
      go_loopw [67] (fun t67 wr => ∃ k : Nat, k ≤ q ∧ t67 = .int .i64 k ∧ Hid (Mk w5.heap.size w6.heap.size w8 (some ad) c6 T6 wr)) (fun t67 _ => q - (intOf t67).toNat)
      case atStart => exact ⟨0, by omega, rfl, hmk⟩
      case round =>
        obtain ⟨k, hk, rfl, hmk2⟩ := hrel
        by_cases hlt2 : k < q
        · obtain ⟨ad', e', a1⟩ := lies_at hmk2.out.row.lies HS.out
          injection e' with e'
          subst e'
          obtain ⟨g, y, hsa, d0, f0, hset⟩ := hmk2.out.at_ (List.mem_of_getElem? HS.out) (k := k) (by rw [HQ.out]; exact hlt2)
          rw [hsa, HQ.out] at a1
          have HSET := Lib.hid hset
          clear hset hsa
          go_upto_region 13 with fail
          go_region
          have hq9 := HQ9'.out
          go_wp2_with fail
          go_roundw
          case rel => exact ⟨k + 1, by omega, by go_num, Lib.hid (HSET.out _).drew⟩
          case measure => simp [intOf]; omega
        · obtain rfl : k = q := by omega
          go_wp2_with fail
          go_roundw
          case rel => exact ⟨i + 1, by omega, by go_num, hmk2⟩
          case measure => simp [intOf]; omega
    · obtain rfl : i = z := by omega
      have K1 := Lib.hid hmk.out.kp
      have X1 : Hid (Row wr w7.heap.size A8 c8 f.1) := Lib.hid (own_kp X8.out K1.out (fun ad ha => by have := own_in X8.out ad ha; have := S6.out; omega))
      have W1 := Lib.hid K1.out.size
      generalize wr = u1 at K1 X1 W1
      clear hmk
      go_wp2_with fail
      go_loopw [88] (fun t88 wr => ∃ (j : Nat), j ≤ x ∧ t88 = .int .i64 j ∧ Hid (∃ M : List Int, M.length = x ∧ Row wr w7.heap.size A8 c8 M) ∧ Hid (Kp (fun b => b < w7.heap.size ∨ w8.heap.size ≤ b) u1 wr)) (fun t88 _ => x - (intOf t88).toNat)
      case atStart => exact ⟨0, by omega, rfl, Lib.hid ⟨f.1, HX.out, X1.out⟩, Lib.hid (Kp.refl _ _)⟩
      case round =>
        obtain ⟨j, hj, rfl, hrow, hkp⟩ := hrel
        by_cases hlt2 : j < x
        · obtain ⟨M, hM, hR⟩ := hrow.out
          obtain ⟨gx, v, rfl, hv, v0, v1, v2⟩ := row_at hR (by rw [hM]; exact hlt2)
          have HS := Lib.hid v2
          have HL := Lib.hid hM
          have HK : Hid (¬ (gx < w7.heap.size ∨ w8.heap.size ≤ gx)) := Lib.hid (by have := own_in X8.out _ rfl; simp only at this; omega)
          have hx9' := hx9.out
          clear v2 hM hR hv
          go_wp2_with fail
          go_roundw
          case rel => exact ⟨j + 1, by omega, by go_num, Lib.hid ⟨M.set j _, by rw [List.length_set, HL.out], HS.out _⟩, Lib.hid (hkp.out.set _ _ _ HK.out)⟩
          case measure => simp [intOf]; omega
        · obtain rfl : j = x := by omega
          have I3 : Hid (Row wr w1.heap.size A3 c3 (L ++ [7])) := Lib.hid (own_kp (own_kp I8.out K1.out (fun ad ha => .inl (E8.out ad ha).2)) hkp.out (fun ad ha => .inl (by have := E8.out ad ha; have := S5.out; have := S6.out; omega)))
          have B3 : Hid (Row wr w3.heap.size A5 c5 (X ++ [8])) := Lib.hid (own_kp (own_kp B8.out K1.out (fun ad ha => .inl (G8.out ad ha).2)) hkp.out (fun ad ha => .inl (by have := G8.out ad ha; have := S5.out; have := S6.out; omega)))
          have F3 : Hid (Frs w6.heap.size wr A7 c7 i p.1 T7) := Lib.hid ((F8.out.kp E7.out K1.out (fun b h1 _ => .inr h1)).kp E7.out hkp.out (fun b _ h2 => .inl h2))
          have b10 : Hid (Below w.heap.size w wr) := Lib.hid ((H8.out.trans ((K1.out.below (B := w5.heap.size) (fun k hk => .inl hk)).mono b5.out.size)).trans ((hkp.out.below (B := w7.heap.size) (fun k hk => .inl hk)).mono (by have := b5.out.size; have := S5.out; have := S6.out; omega)))
          clear hrow hkp
          generalize wr = u3 at I3 B3 F3 b10
          go_upto_region 22 with (go_at_call 16; (with_reducible refine (refAll_on w _ A L n c p HP.out _ HZ.out (by have := HN.out; omega) b10.out (HI.out.kept b10.out)).mono ?_); rintro e11 w11 ⟨A11, c11, T11, rfl, f11, k11, b11⟩)
          have I4 := Lib.hid (I3.out.kept k11.out (Nat.le_refl _))
          have B4 := Lib.hid (B3.out.kept k11.out (Nat.le_refl _))
          have F4 := Lib.hid (F3.out.kept k11.out (Nat.le_refl _))
          have P4 := Lib.hid I4.out.lies.left
          have Q4 := Lib.hid B4.out.lies.left
          obtain ⟨ad, rfl, a0⟩ := row_place (k := n) (x := 7) I4.out (by rw [List.getElem?_append_right (by have := HI.out.len; omega), HI.out.len]; simp)
          obtain ⟨bd, rfl, b0⟩ := row_place (k := m) (x := 8) B4.out (by rw [List.getElem?_append_right (by have := HJ.out.len; omega), HJ.out.len]; simp)
          go_wp2_with (first
            | (go_at_call 17; (with_reducible refine (same_any _ A L n n c3 c _ HI.out.len HI.out.len P4.out (HI.out.bys.kept b11.out)).mono ?_); rintro e12 w12 ⟨rfl, hw⟩; subst hw)
            | (go_at_call 17; (with_reducible refine (same_any _ C X m m c5 d _ HJ.out.len HJ.out.len Q4.out (HJ.out.bys.kept b11.out)).mono ?_); rintro e13 w13 ⟨rfl, hw⟩; subst hw)
            | (go_at_call 18; refine (frs_same w _ _ _ A7 A11 c7 c11 _ p.1 T7 T11 b11.out F4.out f11.out hz9.out).mono ?_; rintro e14 w14 ⟨rfl, b14, k14⟩))
          go_ret
          exact ⟨by simp, b14.out⟩

end Go.Proofs.Ytefkibflellfpaa
