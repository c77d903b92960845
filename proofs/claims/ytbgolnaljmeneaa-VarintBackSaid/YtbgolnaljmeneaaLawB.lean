/-
  The laws VarintReads, VarintBack, VarintWrites.
-/
import Derived.Test.YtbgolnaljmeneaaLawA
namespace Go.Proofs.Ytbgolnaljmeneaa
open Go.RowKit

theorem Got.bys {w w' : World} {p : List Int × Int × Int} {e : Ending} (h : Got w p e w') : ∃ A c, e = .returned (.tuple #[.slice A p.1.length c, .int .i64 p.2.1, .int .i64 p.2.2]) ∧ Bys w' A p.1 ∧ Below w.heap.size w w' := by
  obtain ⟨A, c, h1, h2, h3⟩ := h
  refine ⟨A, c, h1, ?_, h3⟩
  rcases h2 with ⟨-, h2⟩ | ⟨g, rfl, h2⟩
  · exact .inl h2
  · exact h2.bys

set_option maxRecDepth 100000 in
set_option maxHeartbeats 2000000 in
theorem reads_law (A : Option Addr) (L : List Int) (n c : Nat) (at_ most : Int) (w : World) (h : In w A L n c) (hl : n ≤ 140737488351232) (hm : most ≤ 9223372036854775807) :
    Calls Try.prog 4 #[.slice A n c, .int .i64 at_, .int .i64 most] w fun e w' => e = .returned (.bool true) ∧ Below w.heap.size w w' := by
  have HU := Lib.hid (fun A n c w h => uint_any A L n c at_ w h)
  have HUR := Lib.hid (fun A n c w h => uintR_any A L n c at_ w h)
  have HT := Lib.hid (fun A n c w h => int_any A L n c at_ w h)
  have HTR := Lib.hid (fun A n c w h => intR_any A L n c at_ w h)
  have HB := Lib.hid (fun A n c w h hl => bytes_any A L n c at_ most w h hl hm)
  have HBR := Lib.hid (fun A n c w h hl => bytesR_any A L n c at_ most w h hl hm)
  unfold Ans at HU HUR
  unfold AnsI at HT HTR
  generalize uintP L at_ = p at HU HUR
  generalize intP L at_ = q at HT HTR
  generalize bytesP L at_ most = r at HB HBR
  obtain ⟨u, i, e⟩ := p
  obtain ⟨v, j, f⟩ := q
  obtain ⟨X, k, g⟩ := r
  have HI := Lib.hid h
  have HL := Lib.hid hl
  have HN := Lib.hid h.len
  clear h hl
  go_enter Try.func4, Try.ntmps4
  go_upto_region 4 with (first
    | (go_at_call 8; refine (wakes_any _).mono ?_; rintro e1 w1 ⟨rfl, b1⟩; have I1 := Lib.hid (HI.out.kept b1); have B1 := Lib.hid b1; clear b1)
    | (go_at_call 11; refine (own_any _ L n _ _ HN.out I1.out.bys (by have := HN.out; have := HL.out; omega)).mono ?_; rintro e2 w2 ⟨g2, c2, rfl, m2, b2⟩; rw [HN.out]; have J2 := Lib.hid (m2.in_n (n := n) HI.out.byt HN.out); have I2 := Lib.hid (I1.out.kept b2); have B2 := Lib.hid (below_then B1.out b2); clear m2 b2)
    | (go_at_call 17; refine (HU.out _ n c2 _ J2.out).mono ?_; rintro e3 w3 ⟨rfl, hw⟩; subst hw))
  go_upto_region 5 with (first
    | (go_at_call 11; refine (own_any _ L n _ _ HN.out I2.out.bys (by have := HN.out; have := HL.out; omega)).mono ?_; rintro e4 w4 ⟨g4, c4, rfl, m4, b4⟩; rw [HN.out]; have J4 := Lib.hid (m4.in_n (n := n) HI.out.byt HN.out); have I4 := Lib.hid (I2.out.kept b4); have B4 := Lib.hid (below_then B2.out b4); clear m4 b4)
    | (go_at_call 18; refine (HT.out _ n c4 _ J4.out).mono ?_; rintro e5 w5 ⟨rfl, hw⟩; subst hw))
  go_wp2_with (first
    | (go_at_call 11; refine (own_any _ L n _ _ HN.out I4.out.bys (by have := HN.out; have := HL.out; omega)).mono ?_; rintro e6 w6 ⟨g6, c6, rfl, m6, b6⟩; rw [HN.out]; have J6 := Lib.hid (m6.in_n (n := n) HI.out.byt HN.out); have I6 := Lib.hid (I4.out.kept b6); have B6 := Lib.hid (below_then B4.out b6); clear m6 b6)
    | (go_at_call 19; refine (HB.out _ n c6 _ J6.out (by have := HL.out; omega)).mono ?_; rintro e7 w7 hg; obtain ⟨A7, c7, rfl, s7, b7⟩ := hg.bys; have S7 := Lib.hid s7; have I7 := Lib.hid (I6.out.kept b7); have B7 := Lib.hid (below_then B6.out b7); clear hg s7 b7)
    | (go_at_call 20; refine (HUR.out _ n c _ I7.out).mono ?_; rintro e8 w8 ⟨rfl, hw⟩; subst hw)
    | (go_at_call 21; refine (HTR.out _ n c _ I7.out).mono ?_; rintro e8 w8 ⟨rfl, hw⟩; subst hw)
    | (go_at_call 22; refine (HBR.out _ n c _ I7.out (by have := HL.out; omega)).mono ?_; rintro e9 w9 hg; obtain ⟨A9, c9, rfl, s9, b9⟩ := hg.bys; have S9 := Lib.hid s9; have T7 := Lib.hid (S7.out.kept b9); have B9 := Lib.hid (below_then B7.out b9); clear hg s9 b9)
    | (go_at_call 9; refine (same_any _ _ X _ _ _ _ _ rfl rfl T7.out S9.out).mono ?_; rintro e10 w10 ⟨rfl, hw⟩; subst hw))
  go_ret
  exact ⟨rfl, B9.out⟩

/-- What is written and read back, piece by piece. -/
theorem back_parts (L X : List Int) (n m : Nat) (v : Int) (hn : L.length = n) (hm : X.length = m) (hB : Byt L) (hX : Byt X) (hl : n ≤ 140737488351232) (hx : m ≤ 140737488351232) (v0 : -9223372036854775808 ≤ v) (v1 : v ≤ 9223372036854775807) :
    ∃ (u : Int) (L1 L2 L3 : List Int) (n1 n2 n3 : Nat), L1.length = n1 ∧ L2.length = n2 ∧ L3.length = n3 ∧ n3 ≤ 281474976710656 ∧ IntKind.u64.wrap v = u ∧ Byt L3 ∧
      Hid (∀ A c w, Bys w A L → Calls Try.prog 10 #[.slice A n c, .int .u64 u] w (New w L1)) ∧
      Hid (∀ A c w, Bys w A L1 → Calls Try.prog 13 #[.slice A n1 c, .int .i64 v] w (New w L2)) ∧
      Hid (∀ A C c d w, Bys w A L2 → Bys w C X → Calls Try.prog 15 #[.slice A n2 c, .slice C m d] w (New w L3)) ∧
      Hid (∀ A c w, In w A L3 n3 c → Calls Try.prog 17 #[.slice A n3 c, .int .i64 (n : Int)] w fun e w' => e = .returned (.tuple #[.int .u64 u, .int .i64 (n1 : Int), .int .i64 0]) ∧ w = w') ∧
      Hid (∀ A c w, In w A L3 n3 c → Calls Try.prog 18 #[.slice A n3 c, .int .i64 (n1 : Int)] w fun e w' => e = .returned (.tuple #[.int .i64 v, .int .i64 (n2 : Int), .int .i64 0]) ∧ w = w') ∧
      Hid (∀ A c w, In w A L3 n3 c → Calls Try.prog 19 #[.slice A n3 c, .int .i64 (n2 : Int), .int .i64 (m : Int)] w (Got w (X, (n3 : Int), 0))) := by
  obtain ⟨u, hu⟩ : ∃ u, IntKind.u64.wrap v = u := ⟨_, rfl⟩
  have u01 : 0 ≤ u ∧ u ≤ 18446744073709551615 := by rw [← hu, IntKind.wrap_u64]; omega
  obtain ⟨z, hz⟩ : ∃ z, zig v = z := ⟨_, rfl⟩
  have z01 := zig_bd v v0 v1
  have uz := unz_zig v
  rw [hz] at z01 uz
  have du := (digs_len u).2
  have dz := (digs_len z).2
  have dm := (digs_len m).2
  have en : ((L ++ digs u) ++ digs z) ++ (digs m ++ X) = L ++ (digs u ++ (digs z ++ (digs m ++ X))) := by simp
  have en2 : ((L ++ digs u) ++ digs z) ++ (digs m ++ X) = (L ++ digs u) ++ (digs z ++ (digs m ++ X)) := by simp
  have p1 : uintP (((L ++ digs u) ++ digs z) ++ (digs m ++ X)) n = (u, ((L ++ digs u).length : Int), 0) := by
    have := uintP_back L (digs z ++ (digs m ++ X)) u u01.1 u01.2
    rw [en, ← hn, this, List.length_append]
    simp
  have p2 : intP (((L ++ digs u) ++ digs z) ++ (digs m ++ X)) ((L ++ digs u).length : Int) = (v, (((L ++ digs u) ++ digs z).length : Int), 0) := by
    have := uintP_back (L ++ digs u) (digs m ++ X) z z01.1 z01.2
    unfold intP
    rw [en2, this]
    simp only
    rw [uz]
    refine Prod.ext rfl (Prod.ext ?_ rfl)
    show (_ : Int) = _
    simp only [List.length_append]
    omega
  have p3 : bytesP (((L ++ digs u) ++ digs z) ++ (digs m ++ X)) (((L ++ digs u) ++ digs z).length : Int) m = (X, ((((L ++ digs u) ++ digs z) ++ (digs m ++ X)).length : Int), 0) := by
    have := bytesP_back ((L ++ digs u) ++ digs z) X (by have := hm; omega)
    rw [hm] at this
    rw [this]
    refine Prod.ext rfl (Prod.ext ?_ rfl)
    have := hm
    show (_ : Int) = _
    simp only [List.length_append]
    omega
  have hy : Byt (((L ++ digs u) ++ digs z) ++ (digs m ++ X)) := ((hB.append (digs_byt u u01.1 u01.2)).append (digs_byt z z01.1 z01.2)).append ((digs_byt m (by omega) (by have := hm; omega)).append hX)
  have l1 : (L ++ digs u).length ≤ 140737488351242 := by rw [List.length_append, hn]; omega
  have l2 : ((L ++ digs u) ++ digs z).length ≤ 140737488351252 := by simp only [List.length_append] at l1 ⊢; omega
  have l3 : (((L ++ digs u) ++ digs z) ++ (digs m ++ X)).length ≤ 281474976702494 := by have := hm; simp only [List.length_append] at l2 ⊢; omega
  refine ⟨u, L ++ digs u, (L ++ digs u) ++ digs z, ((L ++ digs u) ++ digs z) ++ (digs m ++ X), _, _, _, rfl, rfl, rfl, by omega, hu, hy, Lib.hid fun A c w h => ?_, Lib.hid fun A c w h => ?_, Lib.hid fun A C c d w h g => ?_, Lib.hid fun A c w h => ?_, Lib.hid fun A c w h => ?_, Lib.hid fun A c w h => ?_⟩
  · exact appendUint_any A L n c u w hn h u01.1 u01.2 (by omega)
  · have := appendInt_any A (L ++ digs u) _ c v w rfl h v0 v1 (by rw [hz]; omega)
    rwa [hz] at this
  · exact appendBytes_any A C ((L ++ digs u) ++ digs z) X _ c m d w rfl hm h g (by omega)
  · have := uint_any A _ _ c n w h
    rw [p1] at this
    exact this
  · have := int_any A _ _ c ((L ++ digs u).length : Int) w h
    rw [p2] at this
    exact this
  · have := bytes_any A _ _ c (((L ++ digs u) ++ digs z).length : Int) m w h (by omega) (by omega)
    rw [p3] at this
    exact this

set_option maxRecDepth 100000 in
set_option maxHeartbeats 2000000 in
theorem back_law (A C : Option Addr) (L X : List Int) (n c m d : Nat) (v : Int) (w : World) (h : In w A L n c) (g : In w C X m d) (hl : n ≤ 140737488351232) (hx : m ≤ 140737488351232) (v0 : -9223372036854775808 ≤ v) (v1 : v ≤ 9223372036854775807) :
    Calls Try.prog 5 #[.slice A n c, .int .i64 v, .slice C m d] w fun e w' => e = .returned (.bool true) ∧ Below w.heap.size w w' := by
  obtain ⟨u, L1, L2, L3, n1, n2, n3, e1, e2, e3, l3, hu, hy, K1, K2, K3, K4, K5, K6⟩ := back_parts L X n m v h.len g.len h.byt g.byt hl hx v0 v1
  have E1 := Lib.hid e1
  have E2 := Lib.hid e2
  have E3 := Lib.hid e3
  have T3 := Lib.hid l3
  have HY := Lib.hid hy
  have HI := Lib.hid h
  have HJ := Lib.hid g
  have HN := Lib.hid h.len
  have HM := Lib.hid g.len
  have HL := Lib.hid (And.intro hl hx)
  clear hy h g hl hx e1 e2 e3 l3
  go_enter Try.func5, Try.ntmps5
  go_upto_region 4 with (first
    | (go_at_call 8; refine (wakes_any _).mono ?_; rintro r1 w1 ⟨rfl, b1⟩; have I1 := Lib.hid (HI.out.kept b1); have J1 := Lib.hid (HJ.out.kept b1); have B1 := Lib.hid b1; clear b1)
    | (go_at_call 11; (with_reducible refine (own_any _ X m d _ HM.out J4.out.bys (by have := HM.out; have := HL.out; omega)).mono ?_); rintro r5 w5 ⟨g5, c5, rfl, m5, b5⟩; rw [HM.out]; have M5 := Lib.hid m5.bys; have N4 := Lib.hid (M4.out.kept b5); have J5 := Lib.hid (J4.out.kept b5); have B5 := Lib.hid (below_then B4.out b5); clear m5 b5)
    | (go_at_call 11; (with_reducible refine (own_any _ L n c _ HN.out I1.out.bys (by have := HN.out; have := HL.out; omega)).mono ?_); rintro r2 w2 ⟨g2, c2, rfl, m2, b2⟩; rw [HN.out]; have M2 := Lib.hid m2.bys; have J2 := Lib.hid (J1.out.kept b2); have B2 := Lib.hid (below_then B1.out b2); clear m2 b2)
    | (go_at_call 10; refine (K1.out _ c2 _ M2.out).mono ?_; rintro r3 w3 ⟨g3, c3, rfl, m3, b3⟩; rw [E1.out]; have M3 := Lib.hid m3.bys; have J3 := Lib.hid (J2.out.kept b3); have B3 := Lib.hid (below_then B2.out b3); clear m3 b3)
    | (go_at_call 13; refine (K2.out _ c3 _ M3.out).mono ?_; rintro r4 w4 ⟨g4, c4, rfl, m4, b4⟩; rw [E2.out]; have M4 := Lib.hid m4.bys; have J4 := Lib.hid (J3.out.kept b4); have B4 := Lib.hid (below_then B3.out b4); clear m4 b4)
    | (go_at_call 15; refine (K3.out _ _ c4 c5 _ N4.out M5.out).mono ?_; rintro r6 w6 ⟨g6, c6, rfl, m6, b6⟩; rw [E3.out]; have M6 := Lib.hid m6.bys; have J6 := Lib.hid (J5.out.kept b6); have B6 := Lib.hid (below_then B5.out b6); clear m6 b6))
  clear M2 M3 M4 M5 N4 I1 J1 J2 J3 J4 J5 B1 B2 B3 B4 B5 K1 K2 K3
  go_upto_region 5 with (first
    | (go_at_call 11; refine (own_any _ L3 n3 c6 _ E3.out M6.out (by have := E3.out; have := T3.out; omega)).mono ?_; rintro r7 w7 ⟨g7, c7, rfl, m7, b7⟩; rw [E3.out]; have I7 := Lib.hid (m7.in_n (n := n3) HY.out E3.out); have M7 := Lib.hid (M6.out.kept b7); have J7 := Lib.hid (J6.out.kept b7); have B7 := Lib.hid (below_then B6.out b7); clear m7 b7)
    | (go_at_call 17; refine (K4.out _ c7 _ I7.out).mono ?_; rintro r8 w8 ⟨rfl, hw⟩; subst hw))
  go_upto_region 6 with (first
    | (go_at_call 11; refine (own_any _ L3 n3 c6 _ E3.out M7.out (by have := E3.out; have := T3.out; omega)).mono ?_; rintro r9 w9 ⟨g9, c9, rfl, m9, b9⟩; rw [E3.out]; have I9 := Lib.hid (m9.in_n (n := n3) HY.out E3.out); have M9 := Lib.hid (M7.out.kept b9); have J9 := Lib.hid (J7.out.kept b9); have B9 := Lib.hid (below_then B7.out b9); clear m9 b9)
    | (go_at_call 18; refine (K5.out _ c9 _ I9.out).mono ?_; rintro r10 w10 ⟨rfl, hw⟩; subst hw))
  go_wp2_with (first
    | (go_at_call 11; refine (own_any _ L3 n3 c6 _ E3.out M9.out (by have := E3.out; have := T3.out; omega)).mono ?_; rintro r11 w11 ⟨g11, c11, rfl, m11, b11⟩; rw [E3.out]; have I11 := Lib.hid (m11.in_n (n := n3) HY.out E3.out); have J11 := Lib.hid (J9.out.kept b11); have B11 := Lib.hid (below_then B9.out b11); clear m11 b11)
    | (go_at_call 19; refine (K6.out _ c11 _ I11.out).mono ?_; rintro r12 w12 hg; obtain ⟨A12, c12, rfl, s12, b12⟩ := hg.bys; have S12 := Lib.hid s12; have J12 := Lib.hid (J11.out.kept b12); have B12 := Lib.hid (below_then B11.out b12); clear hg s12 b12)
    | (go_at_call 9; refine (same_any _ C X _ m _ d _ rfl HM.out S12.out J12.out.bys).mono ?_; rintro r13 w13 ⟨rfl, hw⟩; subst hw))
  go_ret
  exact ⟨rfl, B12.out⟩

set_option maxRecDepth 100000 in
set_option maxHeartbeats 2000000 in
theorem writes_law (A C : Option Addr) (L X : List Int) (n c m d : Nat) (v : Int) (w : World) (h : In w A L n c) (g : In w C X m d) (hl : n ≤ 1048576) (hx : m ≤ 1048576) (v0 : 0 ≤ v) (v1 : v ≤ 18446744073709551615) :
    Calls Try.prog 3 #[.slice A n c, .int .u64 v, .slice C m d] w fun e w' => e = .returned (.bool true) ∧ Below w.heap.size w w' := by
  obtain ⟨s, hs⟩ : ∃ s, wrap64 v = s := ⟨_, rfl⟩
  have s01 : -9223372036854775808 ≤ s ∧ s ≤ 9223372036854775807 := by rw [← hs]; unfold wrap64; omega
  have dv := (digs_len v).2
  have dz := (digs_len (zig s)).2
  have dm := (digs_len m).2
  obtain ⟨L1, e1⟩ : ∃ L1, L ++ digs v = L1 := ⟨_, rfl⟩
  obtain ⟨L2, e2⟩ : ∃ L2, L ++ digs (zig s) = L2 := ⟨_, rfl⟩
  obtain ⟨L3, e3⟩ : ∃ L3, L ++ (digs m ++ X) = L3 := ⟨_, rfl⟩
  have hn := h.len
  have hm := g.len
  have K1 : Hid (∀ A c w, Bys w A L → Calls Try.prog 10 #[.slice A n c, .int .u64 v] w (New w L1)) := Lib.hid fun A c w h => by rw [← e1]; exact appendUint_any A L n c v w hn h v0 v1 (by omega)
  have K2 : Hid (∀ A c w, Bys w A L → Calls Try.prog 13 #[.slice A n c, .int .i64 s] w (New w L2)) := Lib.hid fun A c w h => by rw [← e2]; exact appendInt_any A L n c s w hn h s01.1 s01.2 (by omega)
  have K3 : Hid (∀ A C c d w, Bys w A L → Bys w C X → Calls Try.prog 15 #[.slice A n c, .slice C m d] w (New w L3)) := Lib.hid fun A C c d w h g => by rw [← e3]; exact appendBytes_any A C L X n c m d w hn hm h g (by omega)
  have R1 : Hid (∀ A c w, Bys w A L → Calls Try.prog 12 #[.slice A n c, .int .u64 v] w (New w L1)) := Lib.hid fun A c w h => by rw [← e1]; exact appendUintR_any A L n c v w hn h v0 v1 (by omega)
  have R2 : Hid (∀ A c w, Bys w A L → Calls Try.prog 14 #[.slice A n c, .int .i64 s] w (New w L2)) := Lib.hid fun A c w h => by rw [← e2]; exact appendIntR_any A L n c s w hn h s01.1 s01.2 (by omega)
  have R3 : Hid (∀ A C c d w, Bys w A L → Bys w C X → Calls Try.prog 16 #[.slice A n c, .slice C m d] w (New w L3)) := Lib.hid fun A C c d w h g => by rw [← e3]; exact appendBytesR_any A C L X n c m d w hn hm h g (by omega)
  have HI := Lib.hid h
  have HJ := Lib.hid g
  have HN := Lib.hid hn
  have HM := Lib.hid hm
  have HL := Lib.hid (And.intro hl hx)
  clear e1 e2 e3 dv dz dm s01 h g hn hm hl hx
  go_enter Try.func3, Try.ntmps3
  go_wp2_with (first
    | (go_at_call 8; refine (wakes_any _).mono ?_; rintro r1 w1 ⟨rfl, b1⟩; have I1 := Lib.hid (HI.out.kept b1); have J1 := Lib.hid (HJ.out.kept b1); have B1 := Lib.hid b1; clear b1)
    | (go_at_call 11; (with_reducible refine (own_any _ X m d _ HM.out J8.out.bys (by have := HM.out; have := HL.out; omega)).mono ?_); rintro r9 w9 ⟨g9, c9, rfl, m9, b9⟩; rw [HM.out]; have N9 := Lib.hid (M8.out.kept b9); have M9 := Lib.hid m9.bys; have I9 := Lib.hid (I8.out.kept b9); have J9 := Lib.hid (J8.out.kept b9); have B9 := Lib.hid (below_then B8.out b9); clear m9 b9)
    | (go_at_call 11; (with_reducible refine (own_any _ L n c _ HN.out I7.out.bys (by have := HN.out; have := HL.out; omega)).mono ?_); rintro r8 w8 ⟨g8, c8, rfl, m8, b8⟩; rw [HN.out]; have M8 := Lib.hid m8.bys; have I8 := Lib.hid (I7.out.kept b8); have J8 := Lib.hid (J7.out.kept b8); have B8 := Lib.hid (below_then B7.out b8); clear m8 b8)
    | (go_at_call 11; (with_reducible refine (own_any _ L n c _ HN.out I4.out.bys (by have := HN.out; have := HL.out; omega)).mono ?_); rintro r5 w5 ⟨g5, c5, rfl, m5, b5⟩; rw [HN.out]; have M5 := Lib.hid m5.bys; have I5 := Lib.hid (I4.out.kept b5); have J5 := Lib.hid (J4.out.kept b5); have B5 := Lib.hid (below_then B4.out b5); clear m5 b5)
    | (go_at_call 11; (with_reducible refine (own_any _ L n c _ HN.out I1.out.bys (by have := HN.out; have := HL.out; omega)).mono ?_); rintro r2 w2 ⟨g2, c2, rfl, m2, b2⟩; rw [HN.out]; have M2 := Lib.hid m2.bys; have I2 := Lib.hid (I1.out.kept b2); have J2 := Lib.hid (J1.out.kept b2); have B2 := Lib.hid (below_then B1.out b2); clear m2 b2)
    | (go_at_call 10; refine (K1.out _ c2 _ M2.out).mono ?_; rintro r3 w3 ⟨g3, c3, rfl, m3, b3⟩; have M3 := Lib.hid m3.bys; have I3 := Lib.hid (I2.out.kept b3); have J3 := Lib.hid (J2.out.kept b3); have B3 := Lib.hid (below_then B2.out b3); clear m3 b3)
    | (go_at_call 12; refine (R1.out _ c _ I3.out.bys).mono ?_; rintro r4 w4 ⟨g4, c4, rfl, m4, b4⟩; have M4 := Lib.hid m4.bys; have N4 := Lib.hid (M3.out.kept b4); have I4 := Lib.hid (I3.out.kept b4); have J4 := Lib.hid (J3.out.kept b4); have B4 := Lib.hid (below_then B3.out b4); clear m4 b4)
    | (go_at_call 13; refine (K2.out _ c5 _ M5.out).mono ?_; rintro r6 w6 ⟨g6, c6, rfl, m6, b6⟩; have M6 := Lib.hid m6.bys; have I6 := Lib.hid (I5.out.kept b6); have J6 := Lib.hid (J5.out.kept b6); have B6 := Lib.hid (below_then B5.out b6); clear m6 b6)
    | (go_at_call 14; refine (R2.out _ c _ I6.out.bys).mono ?_; rintro r7 w7 ⟨g7, c7, rfl, m7, b7⟩; have M7 := Lib.hid m7.bys; have N7 := Lib.hid (M6.out.kept b7); have I7 := Lib.hid (I6.out.kept b7); have J7 := Lib.hid (J6.out.kept b7); have B7 := Lib.hid (below_then B6.out b7); clear m7 b7)
    | (go_at_call 15; refine (K3.out _ _ c8 c9 _ N9.out M9.out).mono ?_; rintro r10 w10 ⟨g10, c10, rfl, m10, b10⟩; have M10 := Lib.hid m10.bys; have I10 := Lib.hid (I9.out.kept b10); have J10 := Lib.hid (J9.out.kept b10); have B10 := Lib.hid (below_then B9.out b10); clear m10 b10)
    | (go_at_call 16; refine (R3.out _ _ c d _ I10.out.bys J10.out.bys).mono ?_; rintro r11 w11 ⟨g11, c11, rfl, m11, b11⟩; have M11 := Lib.hid m11.bys; have N11 := Lib.hid (M10.out.kept b11); have B11 := Lib.hid (below_then B10.out b11); clear m11 b11)
    | (go_at_call 9; (with_reducible refine (same_any _ _ L3 _ _ _ _ _ rfl rfl N11.out M11.out).mono ?_); rintro r12 w12 ⟨rfl, hw⟩; subst hw)
    | (go_at_call 9; (with_reducible refine (same_any _ _ L2 _ _ _ _ _ rfl rfl N7.out M7.out).mono ?_); rintro r12 w12 ⟨rfl, hw⟩; subst hw)
    | (go_at_call 9; (with_reducible refine (same_any _ _ L1 _ _ _ _ _ rfl rfl N4.out M4.out).mono ?_); rintro r12 w12 ⟨rfl, hw⟩; subst hw))
  go_ret
  exact ⟨rfl, B11.out⟩

end Go.Proofs.Ytbgolnaljmeneaa
