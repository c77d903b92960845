/-
  The law KeysOwn.
-/
import Derived.Test.YtaedhedbmbmdoaaLawC
namespace Go.Proofs.Ytaedhedbmbmdoaa
open Go.RowKit

theorem Pts.left {w : World} {A : Option Addr} {l m : List Qt} (h : Pts w A (l ++ m)) : Pts w A l := by
  rcases h with h | ⟨ad, rfl, h2⟩
  · exact .inl (List.append_eq_nil_iff.1 h).1
  · refine .inr ⟨ad, rfl, fun j u hj => h2 j u ?_⟩
    rw [pvals_append, List.getElem?_append_left (List.getElem?_eq_some_iff.1 hj).1]
    exact hj
theorem Bys.left {w : World} {A : Option Addr} {L M : List Int} (h : Bys w A (L ++ M)) : Bys w A L := by
  rcases h with h | ⟨ad, rfl, h2⟩
  · exact .inl (List.append_eq_nil_iff.1 h).1
  · refine .inr ⟨ad, rfl, fun j u hj => h2 j u ?_⟩
    rw [List.getElem?_append_left (List.getElem?_eq_some_iff.1 hj).1]
    exact hj
def p77 : Qt := ⟨false, 77, ⟨#[]⟩⟩
theorem lit_77 (w : World) : Pts (w.alloc (.cells #[.bool false, .int .i64 77, .string ⟨#[]⟩] 41)) (some ⟨w.heap.size, 0, none⟩) [p77] := lit_part w p77

/-- All is as it was in some blocks. -/
structure Kp (S : Nat → Prop) (w w' : World) : Prop where
  os : w'.os = w.os
  tape : w'.tape = w.tape
  output : w'.output = w.output
  size : w.heap.size ≤ w'.heap.size
  block : ∀ k, S k → w'.heap[k]? = w.heap[k]?
theorem Kp.refl (S : Nat → Prop) (w : World) : Kp S w w := ⟨rfl, rfl, rfl, Nat.le_refl _, fun _ _ => rfl⟩
theorem Kp.set {S : Nat → Prop} {w w' : World} (h : Kp S w w') (g i : Nat) (v : Value) (hg : ¬ S g) : Kp S w (w'.setCell ⟨g, i, none⟩ v) :=
  ⟨h.os, h.tape, h.output, by simpa using h.size, fun k hk => (Below.heap_setCell w' ⟨g, i, none⟩ v k (fun e => by have e' : k = g := e; subst e'; exact hg hk)).trans (h.block k hk)⟩
theorem Kp.below {S : Nat → Prop} {w w' : World} {B : Nat} (h : Kp S w w') (hB : ∀ k, k < B → S k) : Below B w w' := ⟨h.os, h.tape, h.output, h.size, fun k hk => h.block k (hB k hk)⟩
theorem own_kp {S : Nat → Prop} {w w' : World} {B : Nat} {e : TypeId} {size : Nat} {A : Option Addr} {n c : Nat} {xs : List Value} (h : w.ownsRow B e size (.slice A n c) n xs) (hk : Kp S w w') (hS : ∀ ad, A = some ad → S ad.block) : w'.ownsRow B e size (.slice A n c) n xs := by
  refine ⟨h.1, ?_⟩
  rcases h.2 with hn | ⟨g, cap, cur, e1, h1, h2, h3⟩
  · exact .inl hn
  · refine .inr ⟨g, cap, cur, e1, h1, ?_, h3⟩
    injection e1 with e1
    rw [hk.block g (hS _ e1), h2]
theorem own_in {w : World} {B : Nat} {e : TypeId} {size : Nat} {A : Option Addr} {n c : Nat} {xs : List Value} (h : w.ownsRow B e size (.slice A n c) n xs) : ∀ ad, A = some ad → B ≤ ad.block ∧ ad.block < w.heap.size := fun ad ha => by
  rcases h.2 with ⟨hn, _⟩ | ⟨g, cap, cur, e1, h1, h2, h3⟩
  · injection hn with hn
    rw [hn] at ha
    cases ha
  · injection e1 with e1
    rw [e1] at ha
    injection ha with ha
    subst ha
    exact ⟨h1, (Array.getElem?_eq_some_iff.1 h2).1⟩
/-- One place of a row of bytes. -/
theorem row_at {w : World} {B : Nat} {A : Option Addr} {c k : Nat} {L : List Int} (h : Row w B A c L) (hk : k < L.length) : ∃ g v, A = some ⟨g, 0, none⟩ ∧ w.cell? ⟨g, k, none⟩ = some (.int .u8 v) ∧ w.frozen? ⟨g, k, none⟩ = false ∧ ∀ u, Row (w.setCell ⟨g, k, none⟩ (.int .u8 u)) B A c (L.set k u) := by
  have h' := h
  rcases h.2 with ⟨_, h0⟩ | ⟨g, cap, cur, e, h1, _⟩
  · omega
  · injection e with e1 e2 e3
    subst e1
    subst e3
    unfold Row at h'
    refine ⟨g, L[k], rfl, ?_, h'.frozenAt _, fun u => ?_⟩
    · rw [h'.cellAt k (by omega)]
      simp [vals, hk]
    · have := (h'.stored k (.int .u8 u)).1
      unfold Row
      have e : (vals L).set k (.int .u8 u) = vals (L.set k u) := by simp [vals, List.map_set]
      rw [List.length_set, ← e]
      exact this
/-- One place of a row of parts. -/
def Spots (w : World) (A : Option Addr) (z : Nat) : Prop := z = 0 ∨ ∃ g cur, A = some ⟨g, 0, none⟩ ∧ w.heap[g]? = some (.cells cur 41 (0, 0)) ∧ z * 3 ≤ cur.size
theorem Prow.spots {w : World} {B : Nat} {A : Option Addr} {c : Nat} {l : List Qt} (h : Prow w B A c l) : Spots w A l.length := by
  rcases h.2 with ⟨_, h0⟩ | ⟨g, cap, cur, e, h1, h2, h3, h4, h5, h6⟩
  · exact .inl h0
  · injection e with e1 e2 e3
    subst e1
    exact .inr ⟨g, cur, rfl, h2, by have := Nat.mul_le_mul_right 3 h3; omega⟩
theorem Spots.at_ {w : World} {A : Option Addr} {z k : Nat} (h : Spots w A z) (hk : k < z) : ∃ g, A = some ⟨g, 0, none⟩ ∧ (∃ u, w.cell? ⟨g, k * 3, none⟩ = some u) ∧ (∃ u, w.cell? ⟨g, k * 3 + 1, none⟩ = some u) ∧ (∃ u, w.cell? ⟨g, k * 3 + 2, none⟩ = some u) ∧ (∀ i, w.frozen? ⟨g, i, none⟩ = false) ∧
    ∀ u v x, Spots (((w.setCell ⟨g, k * 3, none⟩ u).setCell ⟨g, k * 3 + 1, none⟩ v).setCell ⟨g, k * 3 + 2, none⟩ x) A z := by
  obtain ⟨g, cur, rfl, h2, h3⟩ := h.resolve_left (by omega)
  have cell : ∀ i, i < cur.size → ∃ u, w.cell? ⟨g, i, none⟩ = some u := fun i hi => ⟨cur[i], by simp [World.cell?, h2, hi]⟩
  refine ⟨g, rfl, cell _ (by omega), cell _ (by omega), cell _ (by omega), fun i => by simp [World.frozen?, h2], fun u v x => .inr ⟨g, ((cur.setIfInBounds (k * 3) u).setIfInBounds (k * 3 + 1) v).setIfInBounds (k * 3 + 2) x, rfl, ?_, by simpa using h3⟩⟩
  simp [World.setCell, Array.getElem?_modify, h2]
theorem spots_kp {S : Nat → Prop} {w w' : World} {A : Option Addr} {z : Nat} (h : Spots w A z) (hk : Kp S w w') (hS : ∀ ad, A = some ad → S ad.block) : Spots w' A z := by
  rcases h with h | ⟨g, cur, rfl, h2, h3⟩
  · exact .inl h
  · exact .inr ⟨g, cur, rfl, by rw [hk.block g (hS _ rfl), h2], h3⟩

set_option maxRecDepth 100000 in
set_option maxHeartbeats 8000000 in
theorem own_law (A C : Option Addr) (l : List Qt) (L : List Int) (n c m d : Nat) (w : World) (h : PIn w A l n c) (g : In w C L m d) (hm : m ≤ 140737488351232) :
    Calls Try.prog 7 #[.slice A n c, .slice C m d] w (AllTrue w) := by
  obtain ⟨p, hp⟩ : ∃ p, encP (pts l) = p := ⟨_, rfl⟩
  obtain ⟨x, hx⟩ : ∃ x, p.1.length = x := ⟨_, rfl⟩
  obtain ⟨N, hN⟩ : ∃ N, nextL L = N := ⟨_, rfl⟩
  obtain ⟨y, hy⟩ : ∃ y, N.length = y := ⟨_, rfl⟩
  obtain ⟨f, hf⟩ : ∃ f, decP L = f := ⟨_, rfl⟩
  have HP := Lib.hid hp
  have HX := Lib.hid hx
  have HN := Lib.hid hN
  have HY := Lib.hid hy
  have HF := Lib.hid hf
  have HI := Lib.hid h
  have HJ := Lib.hid g
  have HM := Lib.hid hm
  clear h g hm hp hx hN hy hf
  go_enter Try.func7, Try.ntmps7
  go_upto_region 4 with (first
    | (go_at_call 8; refine (wakes_any' w _ (Below.refl _ _)).mono ?_; rintro e1 w1 ⟨rfl, b1⟩)
    | (go_at_call 10; (with_reducible refine (parts_on w _ A l n c b1.out HI.out).mono ?_); rintro e2 w2 ⟨A2, c2, rfl, r2, k2, b2⟩; have s2 := Lib.hid k2.out.size)
    | (at_builtin; refine wpList_append_prow _ rfl (.tmp 22) (.tmp 24) rfl w1.heap.size A2 c2 l [p77] _ n 1 1 rfl rfl HI.out.len rfl (r2.out.alloc _) (lit_77 w2) (by have := s2.out; rw [World.size_alloc]; omega) (by have := HI.out.len; have := HI.out.size; simp only [List.length_singleton]; omega) ?_; intro A3 c3 w3 r3 k3; have R3 := Lib.hid r3; have K3 := Lib.hid (((Below.refl w1.heap.size w2).alloc s2.out _).trans k3); have b3 := Lib.hid (below_then b1.out (k2.out.trans K3.out)); clear r3 k3)
    | (go_at_call 14; (with_reducible refine (own_on w _ C L m d b3.out HJ.out.len (HJ.out.bys.kept b3.out) HM.out).mono ?_); rintro e4 w4 ⟨A4, c4, rfl, r4, k4, b4⟩; have s4 := Lib.hid k4.out.size; have R4 := Lib.hid (R3.out.kept k4.out (Nat.le_refl _)))
    | (at_builtin; refine wpList_append_row _ rfl (.tmp 27) (.tmp 28) rfl w3.heap.size A4 c4 L [78] _ m 1 1 rfl rfl HJ.out.len rfl (r4.out.alloc _) (lit_one w4 78) (by have := s4.out; rw [World.size_alloc]; omega) (by have := HJ.out.len; have := HM.out; simp only [List.length_singleton]; omega) ?_; intro A5 c5 w5 r5 k5; have R5 := Lib.hid r5; have K5 := Lib.hid (((Below.refl w3.heap.size w4).alloc s4.out _).trans k5); have I5 := Lib.hid (R3.out.kept (k4.out.trans K5.out) (Nat.le_refl _)); have b5 := Lib.hid (b3.out.trans ((k4.out.trans K5.out).mono b3.out.size)); clear r5 k5))
  have hcn : (n : Int) ≤ c3 := by have := (own_cap I5.out).1; have := HI.out.len; simp at *; omega
  have hcm : (m : Int) ≤ c5 := by have := (own_cap R5.out).1; have := HJ.out.len; simp at *; omega
  have T5 := Lib.hid (own_cap R5.out).2
  have U5 : Hid (m ≤ c5) := Lib.hid (by omega)
  have P5 := Lib.hid I5.out.lies.left
  have Q5 := Lib.hid R5.out.lies.left
  clear b1 r2 k2 b2 s2 R3 K3 b3 r4 k4 b4 s4 R4 K5
  go_upto_region 8 with (first
    | (go_at_call 9; (with_reducible refine (encode_on w _ A3 l n c3 p HP.out x HX.out b5.out HI.out.len (by have := HI.out.size; omega) P5.out HI.out.ok).mono ?_); rintro e6 w6 ⟨A6, c6, rfl, r6, k6, b6⟩; have P6 := Lib.hid (P5.out.kept k6.out); have Q6 := Lib.hid (Q5.out.kept k6.out))
    | (go_at_call 9; (with_reducible refine (encode_on w _ A3 l n c3 p HP.out x HX.out b6.out HI.out.len (by have := HI.out.size; omega) P6.out HI.out.ok).mono ?_); rintro e7 w7 ⟨A7, c7, rfl, r7, k7, b7⟩; have Q7 := Lib.hid (Q6.out.kept k7.out))
    | (go_at_call 19; (with_reducible refine (next_on w _ A5 L m c5 N y HN.out HY.out b7.out ⟨HJ.out.len, U5.out, T5.out, Q7.out, HJ.out.byt⟩ HM.out).mono ?_); rintro e8 w8 ⟨A8, c8, rfl, r8, k8, b8⟩; have Q8 := Lib.hid (Q7.out.kept k8.out))
    | (go_at_call 13; (with_reducible refine (decode_on w _ A5 L m c5 f HF.out b8.out ⟨HJ.out.len, U5.out, T5.out, Q8.out, HJ.out.byt⟩ (by have := HM.out; omega)).mono ?_); rintro e9 w9 ⟨A9, c9, z, g, rfl, r9, k9, b9⟩))
  have G6 := Lib.hid (own_in r6.out)
  have G7 := Lib.hid (own_in r7.out)
  have G8 := Lib.hid (own_in r8.out)
  have G9 := Lib.hid (own_in r9.out.row)
  have S6 := Lib.hid k6.out.size
  have S7 := Lib.hid k7.out.size
  have S8 := Lib.hid k8.out.size
  have S9 := Lib.hid k9.out.size
  have X9 := Lib.hid (r6.out.kept (k7.out.trans ((k8.out.trans (k9.out.mono S8.out)).mono S7.out)) (Nat.le_refl _))
  have Y9 := Lib.hid (r7.out.kept (k8.out.trans (k9.out.mono S8.out)) (Nat.le_refl _))
  have N9 := Lib.hid (r8.out.kept k9.out (Nat.le_refl _))
  have D9 := Lib.hid (r9.out.row.spots)
  have Z9 := Lib.hid r9.out.len
  have g9 := Lib.hid r9.out.pts
  have I9 := Lib.hid (I5.out.kept (k6.out.trans ((k7.out.trans ((k8.out.trans (k9.out.mono S8.out)).mono S7.out)).mono S6.out)) (Nat.le_refl _))
  have B9 := Lib.hid (R5.out.kept (k6.out.trans ((k7.out.trans ((k8.out.trans (k9.out.mono S8.out)).mono S7.out)).mono S6.out)) (Nat.le_refl _))
  have E9 := Lib.hid (own_in I5.out)
  have F9 := Lib.hid (own_in R5.out)
  rw [Z9.out] at D9
  clear r6 r7 r8 r9 k6 k7 k8 k9 I5 R5 P5 Q5 P6 Q6 Q7 Q8
  have hx9 : x ≤ 200 := by have := encode_short l p HP.out; have := HX.out; omega
  have hy9 : y ≤ 140737488351232 := by have := next_short L; rw [HN.out, HY.out, HJ.out.len] at this; have := HM.out; omega
  have hz9 : z ≤ 8 := by have := decode_len L f HF.out; rw [← g9.out, pts_len, Z9.out] at this; exact this
  go_wp2_with fail
  go_loopw [61] (fun t61 wr => ∃ (k : Nat), k ≤ x ∧ t61 = .int .i64 k ∧ Hid (∃ M : List Int, M.length = x ∧ Row wr w5.heap.size A6 c6 M) ∧ Hid (Kp (fun b => b < w5.heap.size ∨ w6.heap.size ≤ b) w9 wr)) (fun t61 _ => x - (intOf t61).toNat)
  case atStart => exact ⟨0, by omega, rfl, Lib.hid ⟨p.1, HX.out, X9.out⟩, Lib.hid (Kp.refl _ _)⟩
  case round =>
    obtain ⟨k, hk, rfl, hrow, hkp⟩ := hrel
    by_cases hlt : k < x
    · obtain ⟨M, hM, hR⟩ := hrow.out
      obtain ⟨gx, v, rfl, v0, v1, v2⟩ := row_at hR (by rw [hM]; exact hlt)
      have HS := Lib.hid v2
      have HL := Lib.hid hM
      have HK : Hid (¬ (gx < w5.heap.size ∨ w6.heap.size ≤ gx)) := Lib.hid (by have := G6.out _ rfl; simp only at this; omega)
      clear v2 hM hR
      go_wp2_with fail
      go_roundw
      case rel => exact ⟨k + 1, by omega, by go_num, Lib.hid ⟨M.set k _, by rw [List.length_set, HL.out], HS.out _⟩, Lib.hid (hkp.out.set _ _ _ HK.out)⟩
      case measure => simp [intOf]; omega
    · obtain rfl : k = x := by omega
      have X1 := Lib.hid hkp.out
      have N1 : Hid (Row wr w7.heap.size A8 c8 N) := Lib.hid (own_kp N9.out X1.out (fun ad ha => by have := G8.out ad ha; have := S7.out; omega))
      have W1 := Lib.hid X1.out.size
      generalize wr = u1 at X1 N1 W1
      clear hrow hkp
      go_wp2_with fail
      go_loopw [75] (fun t75 wr => ∃ (j : Nat), j ≤ y ∧ t75 = .int .i64 j ∧ Hid (∃ M : List Int, M.length = y ∧ Row wr w7.heap.size A8 c8 M) ∧ Hid (Kp (fun b => b < w7.heap.size ∨ w8.heap.size ≤ b) u1 wr)) (fun t75 _ => y - (intOf t75).toNat)
      case atStart => exact ⟨0, by omega, rfl, Lib.hid ⟨N, HY.out, N1.out⟩, Lib.hid (Kp.refl _ _)⟩
      case round =>
        obtain ⟨j, hj, rfl, hrow, hkp⟩ := hrel
        by_cases hlt2 : j < y
        · obtain ⟨M, hM, hR⟩ := hrow.out
          obtain ⟨gx, v, rfl, v0, v1, v2⟩ := row_at hR (by rw [hM]; exact hlt2)
          have HS := Lib.hid v2
          have HL := Lib.hid hM
          have HK : Hid (¬ (gx < w7.heap.size ∨ w8.heap.size ≤ gx)) := Lib.hid (by have := G8.out _ rfl; simp only at this; omega)
          clear v2 hM hR
          go_wp2_with fail
          go_roundw
          case rel => exact ⟨j + 1, by omega, by go_num, Lib.hid ⟨M.set j _, by rw [List.length_set, HL.out], HS.out _⟩, Lib.hid (hkp.out.set _ _ _ HK.out)⟩
          case measure => simp [intOf]; omega
        · obtain rfl : j = y := by omega
          have X2 := Lib.hid hkp.out
          have D1 : Hid (Spots u1 A9 z) := Lib.hid (spots_kp D9.out X1.out (fun ad ha => by have := G9.out ad ha; have := S7.out; have := S8.out; omega))
          have D2 : Hid (Spots wr A9 z) := Lib.hid (spots_kp D1.out X2.out (fun ad ha => by have := G9.out ad ha; omega))
          have W2 := Lib.hid X2.out.size
          generalize wr = u2 at X2 D2 W2
          clear hrow hkp
          go_wp2_with fail
          go_loopw [89] (fun t89 wr => ∃ (i : Nat), i ≤ z ∧ t89 = .int .i64 i ∧ Hid (Spots wr A9 z) ∧ Hid (Kp (fun b => b < w8.heap.size) u2 wr)) (fun t89 _ => z - (intOf t89).toNat)
          case atStart => exact ⟨0, by omega, rfl, D2, Lib.hid (Kp.refl _ _)⟩
          case round =>
            obtain ⟨i, hi, rfl, hsp, hkp⟩ := hrel
            by_cases hlt3 : i < z
            · obtain ⟨gx, rfl, ⟨v0, k0⟩, ⟨v1, k1⟩, ⟨v2, k2⟩, kf, ks⟩ := hsp.out.at_ hlt3
              have HS := Lib.hid ks
              have f0 := kf (i * 3)
              have f1 := kf (i * 3 + 1)
              have f2 := kf (i * 3 + 2)
              have HK : Hid (¬ gx < w8.heap.size) := Lib.hid (by have := G9.out _ rfl; simp only at this; omega)
              clear kf ks
              go_wp2_with fail
              go_roundw
              case rel => exact ⟨i + 1, by omega, by go_num, Lib.hid (HS.out _ _ _), Lib.hid (((hkp.out.set _ _ _ HK.out).set _ _ _ HK.out).set _ _ _ HK.out)⟩
              case measure => simp [intOf]; omega
            · obtain rfl : i = z := by omega
              have X3 := Lib.hid hkp.out
              have I3 : Hid (Pts wr A3 (l ++ [p77])) := Lib.hid (Prow.lies (own_kp (own_kp (own_kp I9.out X1.out (fun ad ha => by have := E9.out ad ha; omega)) X2.out (fun ad ha => by have := E9.out ad ha; have := S6.out; have := S7.out; omega)) X3.out (fun ad ha => by have := E9.out ad ha; have := S6.out; have := S7.out; have := S8.out; omega)))
              have B3 : Hid (Bys wr A5 (L ++ [78])) := Lib.hid (Row.lies (own_kp (own_kp (own_kp B9.out X1.out (fun ad ha => by have := F9.out ad ha; omega)) X2.out (fun ad ha => by have := F9.out ad ha; have := S6.out; have := S7.out; omega)) X3.out (fun ad ha => by have := F9.out ad ha; have := S6.out; have := S7.out; have := S8.out; omega)))
              have Y3 : Hid (Bys wr A7 p.1) := Lib.hid (Row.lies (own_kp (own_kp (own_kp Y9.out X1.out (fun ad ha => by have := G7.out ad ha; omega)) X2.out (fun ad ha => by have := G7.out ad ha; omega)) X3.out (fun ad ha => by have := G7.out ad ha; have := S8.out; omega)))
              have b10 : Hid (Below w.heap.size w wr) := Lib.hid (((b9.out.trans ((X1.out.below (B := w5.heap.size) (fun k hk => .inl hk)).mono b5.out.size)).trans ((X2.out.below (B := w7.heap.size) (fun k hk => .inl hk)).mono b7.out.size)).trans ((X3.out.below (B := w8.heap.size) (fun k hk => hk)).mono b8.out.size))
              clear hsp hkp
              generalize wr = u3 at X3 I3 B3 Y3 b10
              go_upto_region 24 with (go_at_call 11; (with_reducible refine (refEncode_on w _ A l n c p HP.out _ HX.out b10.out HI.out).mono ?_); rintro e11 w11 ⟨A11, c11, rfl, r11, k11, b11⟩)
              have I4 := Lib.hid (I3.out.kept k11.out)
              have B4 := Lib.hid (B3.out.kept k11.out)
              have Y4 := Lib.hid (Y3.out.kept k11.out)
              obtain ⟨ad, rfl, a0, a1, a2⟩ := I4.out.at_ (j := n) (q := p77) (by rw [List.getElem?_append_right (by have := HI.out.len; omega), HI.out.len]; simp)
              obtain ⟨bd, rfl, b0⟩ := B4.out.at_ (k := m) (x := 78) (by rw [List.getElem?_append_right (by have := HJ.out.len; omega), HJ.out.len]; simp)
              have e77 : p77.num = 77 := rfl
              rw [e77] at a1
              clear a0 a2 e77
              go_wp2_with (first
                | (go_at_call 15; (with_reducible refine (psame_any _ A l n c3 c _ HI.out.len (by have := HI.out.size; omega) I4.out.left (HI.out.pts.kept b11.out)).mono ?_); rintro e12 w12 ⟨rfl, k12, hw⟩; have b12 := Lib.hid (below_drew b11.out k12); have B5 : Hid (Bys (w11.drewN k12) _ L) := Lib.hid B4.out.left; have Y5 : Hid (Bys (w11.drewN k12) A7 p.1) := Lib.hid Y4.out; have R5 : Hid (Bys (w11.drewN k12) A11 p.1) := Lib.hid r11.out.lies; rw [← hw] at b12 B5 Y5 R5; clear hw)
                | (go_at_call 12; (with_reducible refine (same_any _ C L m m c5 d _ HJ.out.len HJ.out.len B5.out (HJ.out.bys.kept b12.out)).mono ?_); rintro e13 w13 ⟨rfl, hw⟩; subst hw)
                | (go_at_call 12; (with_reducible refine (same_any A7 A11 p.1 _ _ c7 c11 _ HX.out HX.out Y5.out R5.out).mono ?_); rintro e14 w14 ⟨rfl, hw⟩; subst hw))
              go_ret
              exact ⟨by simp, b12.out⟩

end Go.Proofs.Ytaedhedbmbmdoaa
