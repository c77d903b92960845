/-
  Walks: the iterator over the pairs of a block. Walks: pairs unpacked, by the program.
-/
import Derived.Test.YtmgggddnfeojmaaGreatJO03
set_option linter.unusedSimpArgs false
set_option linter.unusedVariables false
namespace Go.Proofs.YtmgggddnfeojmaaGreat
open Go.RowKit Go.Shelf
attribute [local go_sem] Oper.semAt_some
theorem pairsOf_any (A : Option Addr) (n c : Nat) (w : World) :
    Calls Tryz.prog 123 #[.slice A n c] w fun e w' => e = .returned (.func (.func 130) #[] #[.pointer (some ⟨w.heap.size, 0, none⟩)]) ∧ w' = w.alloc (.cells #[.slice A n c] 42) := by
  go_enter Tryz.func123, Tryz.ntmps123
  go_wp2
  go_ret
  exact ⟨rfl, rfl⟩
/-- What a loop over the pairs holds, as the iterator wants it. -/
structure Host (Base bx : Nat) (A : Option Addr) (L : List Int) (n c : Nat) (I : Ks → World → Prop) : Prop where
  box : ∀ s W, I s W → W.cell? ⟨bx, 0, none⟩ = some (.slice A n c)
  in_ : ∀ s W, I s W → In W A L n c
  key : ∀ s W, I s W → Row W Base s.ka s.kc s.k
  bel : ∀ s W W', I s W → Below W.heap.size W W' → I s W'
  turn : ∀ (s : Ks) (W W' : World) (A' : Option Addr) (c' : Nat) (K : List Int), I s W → Row W' Base A' c' K → Below Base W W' → W.grownBy W' (Value.slice s.ka 0 s.kc).ownBlock → (∀ ad, A' = some ad → (∃ a0, s.ka = some a0 ∧ ad.block = a0.block) ∨ W.heap.size ≤ ad.block) → I ⟨s.ps, s.e, A', c', K⟩ W'
/-- A round that goes on; one that leaves. -/
def OnK (A : Option Addr) (L : List Int) (n c : Nat) (s : Ks) (args : Array Value) (s' : Ks) (W : World) : Prop :=
  s.e = 0 ∧ ∃ (V : List Int) (vA : Option Addr) (vc z q : Nat), s' = ⟨s.ps ++ [(s.k, V)], 0, s.ka, s.kc, s.k⟩ ∧ s.k.length = q ∧ args = #[.agg #[.slice s.ka q s.kc, .slice vA z vc], .int .i64 0] ∧ In W vA V z vc ∧ Byt s.k ∧ s.ps.length < 4096 ∧ q ≤ 200 ∧ z ≤ 4096 ∧ risesP [] s.ps ∧ cmpL s.k (lastK [] s.ps) = 1 ∧ ∀ w0 : World, In w0 A L n c → In w0 vA V z vc
def OffK (s : Ks) (args : Array Value) (s' : Ks) (_W : World) : Prop :=
  ∃ (vA : Option Addr) (vc z q : Nat) (er : Int), er ≠ 0 ∧ s' = ⟨s.ps, er, s.ka, s.kc, s.k⟩ ∧ args = #[.agg #[.slice s.ka q s.kc, .slice vA z vc], .int .i64 er]
theorem high_of {w : World} {B : Nat} {A : Option Addr} {c : Nat} {L : List Int} (h : Row w B A c L) (n k : Nat) (hn : L.length = n) (hk : k ≤ n) : ∀ W, (Instr.slice 42 (.slice A n c) none (some (.int .i64 (k : Int))) none).run Tryz.prog W = .ok (.slice A k c) W :=
  (slice_high h.lies n k c hn hk (by rw [← hn]; exact (own_cap h).1)).1
theorem r_turn {W W' : World} {B n : Nat} {A : Option Addr} {c : Nat} {K : List Int} {R : World → Prop} (h : Row W B A c K) (hg : W.grownBy W' (Value.slice A n c).ownBlock) (hR : ∀ W W', R W → Below W.heap.size W W' → R W') (hRg : ∀ W W' (g : Nat) (cur : Array Value) (ty : TypeId) (mk : Nat × Nat), R W → W.heap[g]? = some (.cells cur ty mk) → W.grownBy W' (some g) → R W') (r : R W) : R W' := by
  rcases h.2 with ⟨hv, h0⟩ | ⟨g, cap, cur, hv, hbg, hgb, _⟩
  · injection hv with e1 e2 e3
    subst e1
    refine hR W W' r ⟨hg.os, hg.tape, hg.output, hg.size, fun k hk => hg.block k hk (by simp [Value.ownBlock])⟩
  · injection hv with e1 e2 e3
    subst e1
    exact hRg W W' g cur _ _ r hgb hg
theorem own_len (A : Option Addr) (n m c : Nat) : (Value.slice A n c).ownBlock = (Value.slice A m c).ownBlock := by cases A <;> rfl
set_option maxRecDepth 100000 in
set_option maxHeartbeats 8000000 in
theorem pairs_iter (N l Base bx : Nat) (A : Option Addr) (L : List Int) (n c : Nat) (I Ix : Ks → World → Prop) (R R' : World → Prop) (hH : Host Base bx A L n c I) (hn : n ≤ 140737488355328)
    (hR : ∀ W W', R W → Below W.heap.size W W' → R W') (hRg : ∀ W W' (g : Nat) (cur : Array Value) (ty : TypeId) (mk : Nat × Nat), R W → W.heap[g]? = some (.cells cur ty mk) → W.grownBy W' (some g) → R W') (hRs : ∀ W, R W → Base ≤ W.heap.size)
    (hyes : ∀ s args s' W, OnK A L n c s args s' W → I s W → R W → YieldAt Fence.wide N Tryz.prog l args W fun e W' => e = .returned (.bool true) ∧ I s' W' ∧ R W')
    (hno : ∀ s args s' W, OffK s args s' W → I s W → R W → YieldAt Fence.wide N Tryz.prog l args W fun e W' => e = .returned (.bool false) ∧ Ix s' W' ∧ R' W')
    (W : World) (hI0 : I ⟨[], 0, none, 0, []⟩ W) (hr0 : R W) :
    CallsIn Fence.wide (N + 1) Tryz.prog 130 (#[.func (.yield l) #[] #[]] ++ #[.pointer (some ⟨bx, 0, none⟩)]) W fun e W' => (∃ v, e = .returned v) ∧ ((∃ s, readP L = (s.ps, 0) ∧ I s W' ∧ R W') ∨ (∃ s, readP L = ([], s.e) ∧ Ix s W' ∧ R' W')) := by
  refine callsIn_of_wp Tryz.func130 rfl trivial ?_ rfl
  simp only [Tryz.ntmps130, List.size_toArray, List.length_cons, List.length_nil, Nat.reduceAdd, Nat.reduceSub, Array.replicate_succ, Array.replicate_zero, List.push_toArray, List.append_toArray, List.nil_append, List.cons_append]
  have HHO := Lib.hid hH
  have HNN := Lib.hid hn
  have HI0 := Lib.hid hI0
  have HR0 := Lib.hid hr0
  have HYES := Lib.hid hyes
  have HNO := Lib.hid hno
  have HRK := Lib.hid hR
  have HRG := Lib.hid hRg
  have HRS := Lib.hid hRs
  have htop : (n : Int) ≤ 9223372036854775807 := by omega
  clear hH hn hI0 hr0 hyes hno hR hRg hRs
  gi_wp2
  gi_loopw [3, 4, 5] (fun t3 t4 t5 wr => ∃ (s : Ks) (a q m : Nat), t4 = .int .i64 a ∧ t3 = .slice s.ka q s.kc ∧ t5 = .int .i64 ((m : Int) + 1) ∧ Hid (s.k.length = q) ∧ Hid (s.ps.length = m) ∧ Hid (s.e = 0) ∧ Hid (s.k = lastK [] s.ps) ∧ Hid (LeftB L s.ps a) ∧ Hid (I s wr) ∧ Hid (R wr)) (fun _ t4 _ _ => n - (intOf t4).toNat)
  case atStart => exact ⟨⟨[], 0, none, 0, []⟩, 0, 0, 0, rfl, rfl, rfl, Lib.hid rfl, Lib.hid rfl, Lib.hid rfl, Lib.hid rfl, Lib.hid (LeftB.start L), HI0, HR0⟩
  case round =>
    obtain ⟨s, a, q, m, rfl, rfl, rfl, hq, hm, he, hk, hle, hi, hr⟩ := hrel
    have c5 := HHO.out.box s wr hi.out
    by_cases hlt : a < n
    · have IN := HHO.out.in_ s wr hi.out
      have KY := HHO.out.key s wr hi.out
      have hkb : Byt s.k := by rw [hk.out]; exact lastK_byt _ _ Byt.nil hle.out.byt
      have hk2 : q ≤ 200 := by rw [← hq.out, hk.out]; exact lastK_short _ _ (by simp) hle.out.short.2
      have HPA := packedAt_any A s.ka L s.k n c a q s.kc wr IN (KY.in_n hkb hq.out) hk2 HNN.out
      have HAL : Hid (a < L.length) := Lib.hid (by rw [IN.len]; exact hlt)
      have HLB := Lib.hid IN.byt
      have HKY := Lib.hid KY
      have HM4 : Hid (m ≤ 4096) := Lib.hid (by rw [← hm.out]; exact hle.out.short.1)
      have hm5 : (m : Int) ≤ 4096 := by have := HM4.out; omega
      have HQ200 := Lib.hid hk2
      have i0 : (a : Int) < n := by omega
      by_cases h0 : (oneP L a s.k).2.2 = 0
      · have HPG : Hid (CallsIn Fence.wide N Tryz.prog 131 #[.slice A n c, .int .i64 (a : Int), .slice s.ka q s.kc] wr fun e w' => ∃ X Y Z S : Nat, (oneP L a s.k) = ((s.k.take X ++ (L.drop S).take Y, (L.drop (S + Y)).take Z), (S : Int) + Y + Z, 0) ∧ X ≤ q ∧ S + Y + Z ≤ n ∧ PkGood wr X Y Z (S + Y + Z) (midA A S c) (midA A (S + Y) c) (c - S) (c - (S + Y)) e w') := Lib.hid (callsIn_wide.2 (HPA.mono (fun e w' h => h.resolve_left (fun h => h.1 h0))))
        have H0 := Lib.hid h0
        clear IN KY hkb hk2 HPA h0
        by_cases hm6 : m = 4096
        case pos =>
          subst hm6
          have HE : Hid (readP L = ([], 3)) := Lib.hid (hle.out.many HAL.out (by rw [← hk.out]; exact H0.out) (by rw [hm.out]; exact Nat.le_refl _))
          gi_wp2_with (refine ⟨trivial, ?_⟩; gi_at_call 131; refine HPG.out.mono ?_; rintro e1 w1 ⟨X, Y, Z, S, hone, hx, hy, rfl, b1⟩; have HONE := Lib.hid hone; have HXQ := Lib.hid (And.intro hx hy); have B1 := Lib.hid b1; clear hone hx hy b1)
          obtain ⟨M, hM⟩ : ∃ M, (L.drop S).take Y = M := ⟨_, rfl⟩
          have MIN : Hid (∀ W', Below wr.heap.size wr W' → In W' (midA A S c) M Y (c - S)) := Lib.hid (fun W' hb => hM ▸ ((HHO.out.in_ s W' (HHO.out.bel s wr W' hi.out hb)).mid_at S Y (Nat.le_trans (Nat.le_add_right _ _) HXQ.out.2)).2)
          have MLN : Hid (M.length = Y) := Lib.hid (MIN.out wr (Below.refl _ _)).len
          rw [hM] at HONE
          clear hM
          obtain ⟨e', s1, s2, s3, -⟩ := oneP_step HLB.out H0.out
          have MKL : Hid (Y ≤ 200 ∧ Z ≤ 4096) := Lib.hid (by
            obtain ⟨u, -, -, -, h4, -⟩ := oneP_step HLB.out H0.out
            rw [HONE.out] at h4
            have h5 := h4.1
            have h6 := h4.2
            simp only [List.length_append, MLN.out] at h5
            refine ⟨by omega, ?_⟩
            have h7 := ((HHO.out.in_ s wr hi.out).mid_at (S + Y) Z HXQ.out.2).2.len
            rw [h7] at h6
            exact h6)
          clear s1 s2 s3
          obtain ⟨W2, hW2⟩ : ∃ W2, w1.alloc (.cells #[.int .i64 X, .slice (midA A S c) Y (c - S), .slice (midA A (S + Y) c) Z (c - (S + Y))] 160) = W2 := ⟨_, rfl⟩
          have J2 : Hid (W2.drew.heap[w1.heap.size]? = some (.cells #[.int .i64 X, .slice (midA A S c) Y (c - S), .slice (midA A (S + Y) c) Z (c - (S + Y))] 160 (0, 0))) := Lib.hid (hW2 ▸ heap_alloc_new w1 _)
          have D2 : Hid (Below wr.heap.size wr W2.drew) := Lib.hid (hW2 ▸ (below_al B1.out _).drew)
          rw [hW2]
          clear hW2
          obtain ⟨J, hJ⟩ : ∃ J, w1.heap.size = J := ⟨_, rfl⟩
          rw [hJ] at J2 ⊢
          clear hJ
          have I2 := Lib.hid (HHO.out.bel s wr W2.drew hi.out D2.out)
          have R2 := Lib.hid (HRK.out wr W2.drew hr.out D2.out)
          have K2 := Lib.hid (HHO.out.key s W2.drew I2.out)
          have hh := high_of K2.out q X hq.out HXQ.out.1
          have HS0 : Hid (W2.drew.cell? ⟨J, 0, none⟩ = some (.int .i64 X) ∧ W2.drew.cell? ⟨J, 1, none⟩ = some (.slice (midA A S c) Y (c - S))) := Lib.hid (by constructor <;> simp only [World.cell?, J2.out] <;> rfl)
          have T1 := Lib.hid trivial
          refine wpIn_wide.2 ?_
          go_region_held3 (fun W' => W'.cell? ⟨J, 0, none⟩ = some (.int .i64 X) ∧ W'.cell? ⟨J, 1, none⟩ = some (.slice (midA A S c) Y (c - S))) (first | exact HS0.out | exact HS1.out | go_keep) (first
            | (have t1 := T1; refine step_append_placed _ (by rfl) (.tmp 32) (.tmp 34) (by rfl) Base s.ka s.kc (s.k.take X) M (midA A S c) X Y (c - S) rfl rfl (by rw [List.length_take, hq.out]; exact Nat.min_eq_left HXQ.out.1) MLN.out (K2.out.high X (by rw [hq.out]; exact HXQ.out.1)) (MIN.out _ D2.out).bys (HRS.out _ R2.out) (by rw [List.length_take, MLN.out, hq.out]; have := MKL.out; have := HQ200.out; omega) ?_; intro A7 c7 w7 r7 b7 g7 p7; have R7 := Lib.hid r7; have G7 := Lib.hid g7; have I7 := Lib.hid (HHO.out.turn s _ w7 A7 c7 _ I2.out r7 b7 (by rw [own_len s.ka 0 (s.k.take X).length s.kc]; exact g7) p7); have Q7 := Lib.hid (r_turn (n := 0) K2.out (by rw [own_len s.ka 0 (s.k.take X).length s.kc]; exact g7) HRK.out HRG.out R2.out); have J7 := Lib.hid (block_beside (by decide) J2.out (K2.out.high X (by rw [hq.out]; exact HXQ.out.1)) g7); have HS1 : Hid (w7.cell? ⟨J, 0, none⟩ = some (.int .i64 X) ∧ w7.cell? ⟨J, 1, none⟩ = some (.slice (midA A S c) Y (c - S))) := Lib.hid (by constructor <;> simp only [World.cell?, J7.out] <;> rfl); clear r7 b7 g7 p7 T1 t1))
          have v2 : w7.cell? ⟨J, 2, none⟩ = some (.slice (midA A (S + Y) c) Z (c - (S + Y))) := by simp only [World.cell?, J7.out]; rfl
          have v1 := HS1.out.2
          have v0 := HS1.out.1
          have HOFF : Hid (OffK ⟨s.ps, s.e, A7, c7, s.k.take X ++ M⟩ #[.agg #[.slice A7 (X + Y) c7, .slice (midA A (S + Y) c) Z (c - (S + Y))], .int .i64 3] ⟨s.ps, 3, A7, c7, s.k.take X ++ M⟩ w7) := Lib.hid ⟨midA A (S + Y) c, c - (S + Y), Z, X + Y, 3, by decide, rfl, rfl⟩
          obtain ⟨fn, tmps, assign, body, hy, hY⟩ := HNO.out _ _ _ w7 HOFF.out I7.out Q7.out
          have HY := Lib.hid hY
          clear hY
          gi_wp2
          refine HY.out.mono ?_
          rintro e W' ⟨rfl, S2, Q2⟩
          have HS2 := Lib.hid S2
          have HQ2 := Lib.hid Q2
          clear S2 Q2 HY hy
          gi_wp2
          refine bodyPost_ret (results_none rfl _ _ _) rfl ?_
          exact ⟨⟨_, rfl⟩, .inr ⟨_, HE.out, HS2.out, HQ2.out⟩⟩
        have hm7 : m < 4096 := by have := HM4.out; omega
        have d5 : decide (4096 < (m : Int) + 1) = false := by simp; omega
        clear hm6
        gi_wp2_with (refine ⟨trivial, ?_⟩; gi_at_call 131; refine HPG.out.mono ?_; rintro e1 w1 ⟨X, Y, Z, S, hone, hx, hy, rfl, b1⟩; have HONE := Lib.hid hone; have HXQ := Lib.hid (And.intro hx hy); have B1 := Lib.hid b1; clear hone hx hy b1)
        obtain ⟨M, hM⟩ : ∃ M, (L.drop S).take Y = M := ⟨_, rfl⟩
        have MIN : Hid (∀ W', Below wr.heap.size wr W' → In W' (midA A S c) M Y (c - S)) := Lib.hid (fun W' hb => hM ▸ ((HHO.out.in_ s W' (HHO.out.bel s wr W' hi.out hb)).mid_at S Y (Nat.le_trans (Nat.le_add_right _ _) HXQ.out.2)).2)
        have MLN : Hid (M.length = Y) := Lib.hid (MIN.out wr (Below.refl _ _)).len
        rw [hM] at HONE
        clear hM
        obtain ⟨e', s1, s2, s3, -⟩ := oneP_step HLB.out H0.out
        have MKL : Hid (Y ≤ 200 ∧ Z ≤ 4096) := Lib.hid (by
          obtain ⟨u, -, -, -, h4, -⟩ := oneP_step HLB.out H0.out
          rw [HONE.out] at h4
          have h5 := h4.1
          have h6 := h4.2
          simp only [List.length_append, MLN.out] at h5
          refine ⟨by omega, ?_⟩
          have h7 := ((HHO.out.in_ s wr hi.out).mid_at (S + Y) Z HXQ.out.2).2.len
          rw [h7] at h6
          exact h6)
        clear s1 s2 s3
        obtain ⟨W2, hW2⟩ : ∃ W2, w1.alloc (.cells #[.int .i64 X, .slice (midA A S c) Y (c - S), .slice (midA A (S + Y) c) Z (c - (S + Y))] 160) = W2 := ⟨_, rfl⟩
        have J2 : Hid (W2.drew.heap[w1.heap.size]? = some (.cells #[.int .i64 X, .slice (midA A S c) Y (c - S), .slice (midA A (S + Y) c) Z (c - (S + Y))] 160 (0, 0))) := Lib.hid (hW2 ▸ heap_alloc_new w1 _)
        have D2 : Hid (Below wr.heap.size wr W2.drew) := Lib.hid (hW2 ▸ (below_al B1.out _).drew)
        rw [hW2]
        clear hW2
        obtain ⟨J, hJ⟩ : ∃ J, w1.heap.size = J := ⟨_, rfl⟩
        rw [hJ] at J2 ⊢
        clear hJ
        have I2 := Lib.hid (HHO.out.bel s wr W2.drew hi.out D2.out)
        have R2 := Lib.hid (HRK.out wr W2.drew hr.out D2.out)
        have K2 := Lib.hid (HHO.out.key s W2.drew I2.out)
        have hh := high_of K2.out q X hq.out HXQ.out.1
        have HS0 : Hid (W2.drew.cell? ⟨J, 0, none⟩ = some (.int .i64 X) ∧ W2.drew.cell? ⟨J, 1, none⟩ = some (.slice (midA A S c) Y (c - S))) := Lib.hid (by constructor <;> simp only [World.cell?, J2.out] <;> rfl)
        have T1 := Lib.hid trivial
        refine wpIn_wide.2 ?_
        go_region_held3 (fun W' => W'.cell? ⟨J, 0, none⟩ = some (.int .i64 X) ∧ W'.cell? ⟨J, 1, none⟩ = some (.slice (midA A S c) Y (c - S))) (first | exact HS0.out | exact HS1.out | go_keep) (first
          | (have t1 := T1; refine step_append_placed _ (by rfl) (.tmp 32) (.tmp 34) (by rfl) Base s.ka s.kc (s.k.take X) M (midA A S c) X Y (c - S) rfl rfl (by rw [List.length_take, hq.out]; exact Nat.min_eq_left HXQ.out.1) MLN.out (K2.out.high X (by rw [hq.out]; exact HXQ.out.1)) (MIN.out _ D2.out).bys (HRS.out _ R2.out) (by rw [List.length_take, MLN.out, hq.out]; have := MKL.out; have := HQ200.out; omega) ?_; intro A7 c7 w7 r7 b7 g7 p7; have R7 := Lib.hid r7; have G7 := Lib.hid g7; have I7 := Lib.hid (HHO.out.turn s _ w7 A7 c7 _ I2.out r7 b7 (by rw [own_len s.ka 0 (s.k.take X).length s.kc]; exact g7) p7); have Q7 := Lib.hid (r_turn (n := 0) K2.out (by rw [own_len s.ka 0 (s.k.take X).length s.kc]; exact g7) HRK.out HRG.out R2.out); have J7 := Lib.hid (block_beside (by decide) J2.out (K2.out.high X (by rw [hq.out]; exact HXQ.out.1)) g7); have HS1 : Hid (w7.cell? ⟨J, 0, none⟩ = some (.int .i64 X) ∧ w7.cell? ⟨J, 1, none⟩ = some (.slice (midA A S c) Y (c - S))) := Lib.hid (by constructor <;> simp only [World.cell?, J7.out] <;> rfl); clear r7 b7 g7 p7 T1 t1))
        have v2 : w7.cell? ⟨J, 2, none⟩ = some (.slice (midA A (S + Y) c) Z (c - (S + Y))) := by simp only [World.cell?, J7.out]; rfl
        have v1 := HS1.out.2
        have v0 := HS1.out.1
        obtain ⟨e', s1, s2, s3, s4⟩ := hle.out.step HLB.out HAL.out (by rw [← hk.out]; exact H0.out) (by rw [hm.out]; exact hm7)
        rw [← hk.out, HONE.out] at s1 s4
        obtain rfl : e' = S + Y + Z := by simp only at s1; omega
        have HLE := Lib.hid s4
        have HPOS := Lib.hid s2
        clear s1 s2 s3 s4
        have HV7 := Lib.hid ((HHO.out.in_ _ w7 I7.out).mid_at (S + Y) Z HXQ.out.2).2
        have HKL : Hid ((s.k.take X ++ M).length = X + Y) := Lib.hid (by rw [List.length_append, List.length_take, hq.out, MLN.out, Nat.min_eq_left HXQ.out.1])
        have HRI := Lib.hid HLE.out.rise
        rw [risesP_snoc] at HRI
        have HON : Hid (OnK A L n c ⟨s.ps, s.e, A7, c7, s.k.take X ++ M⟩ #[.agg #[.slice A7 (X + Y) c7, .slice (midA A (S + Y) c) Z (c - (S + Y))], .int .i64 0] ⟨s.ps ++ [(s.k.take X ++ M, (L.drop (S + Y)).take Z)], 0, A7, c7, s.k.take X ++ M⟩ w7) := Lib.hid ⟨he.out, (L.drop (S + Y)).take Z, midA A (S + Y) c, c - (S + Y), Z, X + Y, rfl, HKL.out, rfl, HV7.out, (HLE.out.byt (s.k.take X ++ M, (L.drop (S + Y)).take Z) (by simp)).1, by rw [hm.out]; exact hm7, by have := (HLE.out.short.2 (s.k.take X ++ M, (L.drop (S + Y)).take Z) (by simp)).1; simp only [HKL.out] at this; exact this, MKL.out.2, HRI.out.1, HRI.out.2, fun w0 hi0 => (hi0.mid_at (S + Y) Z HXQ.out.2).2⟩
        obtain ⟨fn, tmps, assign, body, hy, hY⟩ := HYES.out _ _ _ w7 HON.out I7.out Q7.out
        have HY := Lib.hid hY
        clear hY
        gi_wp2
        refine HY.out.mono ?_
        rintro e W' ⟨rfl, S2, Q2⟩
        have HS2 := Lib.hid S2
        have HQ2 := Lib.hid Q2
        clear S2 Q2 HY hy
        gi_wp2
        go_roundw
        case rel => exact ⟨⟨s.ps ++ [(s.k.take X ++ M, (L.drop (S + Y)).take Z)], 0, A7, c7, s.k.take X ++ M⟩, S + Y + Z, X + Y, m + 1, by go_num, rfl, by go_num, HKL, Lib.hid (by rw [List.length_append, hm.out]; rfl), Lib.hid rfl, Lib.hid (by rw [lastK_snoc]), HLE, HS2, HQ2⟩
        case measure => have := HPOS.out; simp [intOf]; omega
      · have HPB : Hid (CallsIn Fence.wide N Tryz.prog 131 #[.slice A n c, .int .i64 (a : Int), .slice s.ka q s.kc] wr (PkBad wr (oneP L a s.k).2.2)) := Lib.hid (callsIn_wide.2 (HPA.mono (fun e w' h => h.elim (fun h => h.2) (fun ⟨X, Y, Z, S, h1, _⟩ => absurd (by rw [h1]) h0))))
        have HE : Hid (readP L = ([], (oneP L a s.k).2.2)) := Lib.hid (by rw [hk.out]; exact hle.out.bad HAL.out (by rw [← hk.out]; exact h0))
        have HZ := Lib.hid h0
        generalize (oneP L a s.k).2.2 = er at HPB HE HZ
        have hz : (er == 0) = false := by simpa using HZ.out
        clear IN KY hkb hk2 HPA h0
        gi_wp2_with (refine ⟨trivial, ?_⟩; gi_at_call 131; refine HPB.out.mono ?_; rintro e1 w1 ⟨rfl, b1⟩; have B1 := Lib.hid b1; clear b1)
        obtain ⟨W2, hW2⟩ : ∃ W2, w1.alloc (.cells #[.int .i64 0, .slice none 0 0, .slice none 0 0] 160) = W2 := ⟨_, rfl⟩
        have J2 : Hid (W2.drew.heap[w1.heap.size]? = some (.cells #[.int .i64 0, .slice none 0 0, .slice none 0 0] 160 (0, 0))) := Lib.hid (hW2 ▸ heap_alloc_new w1 _)
        have D2 : Hid (Below wr.heap.size wr W2.drew) := Lib.hid (hW2 ▸ (below_al B1.out _).drew)
        rw [hW2]
        clear hW2
        obtain ⟨J, hJ⟩ : ∃ J, w1.heap.size = J := ⟨_, rfl⟩
        rw [hJ] at J2 ⊢
        clear hJ
        have I2 := Lib.hid (HHO.out.bel s wr W2.drew hi.out D2.out)
        have R2 := Lib.hid (HRK.out wr W2.drew hr.out D2.out)
        have K2 := Lib.hid (HHO.out.key s W2.drew I2.out)
        have hh : ∀ W : World, (Instr.slice 42 (.slice s.ka q s.kc) none (some (.int .i64 0)) none).run Tryz.prog W = .ok (.slice s.ka 0 s.kc) W := high_of K2.out q 0 hq.out (Nat.zero_le _)
        have HS0 : Hid (W2.drew.cell? ⟨J, 0, none⟩ = some (.int .i64 0) ∧ W2.drew.cell? ⟨J, 1, none⟩ = some (.slice none 0 0)) := Lib.hid (by constructor <;> simp only [World.cell?, J2.out] <;> rfl)
        have T1 := Lib.hid trivial
        refine wpIn_wide.2 ?_
        go_region_held3 (fun W' => W'.cell? ⟨J, 0, none⟩ = some (.int .i64 0) ∧ W'.cell? ⟨J, 1, none⟩ = some (.slice none 0 0)) (first | exact HS0.out | exact HS1.out | go_keep) (first
          | (have t1 := T1; refine step_append_placed _ (by rfl) (.tmp 32) (.tmp 34) (by rfl) Base s.ka s.kc (s.k.take 0) [] none 0 0 0 rfl rfl (by rw [List.length_take]; exact Nat.zero_min _) rfl (K2.out.high 0 (by rw [hq.out]; exact (Nat.zero_le _))) (.inl rfl) (HRS.out _ R2.out) (by rw [List.length_take]; simp) ?_; intro A7 c7 w7 r7 b7 g7 p7; have R7 := Lib.hid r7; have G7 := Lib.hid g7; have I7 := Lib.hid (HHO.out.turn s _ w7 A7 c7 _ I2.out r7 b7 (by rw [own_len s.ka 0 (s.k.take 0).length s.kc]; exact g7) p7); have Q7 := Lib.hid (r_turn (n := 0) K2.out (by rw [own_len s.ka 0 (s.k.take 0).length s.kc]; exact g7) HRK.out HRG.out R2.out); have J7 := Lib.hid (block_beside (by decide) J2.out (K2.out.high 0 (by rw [hq.out]; exact (Nat.zero_le _))) g7); have HS1 : Hid (w7.cell? ⟨J, 0, none⟩ = some (.int .i64 0) ∧ w7.cell? ⟨J, 1, none⟩ = some (.slice none 0 0)) := Lib.hid (by constructor <;> simp only [World.cell?, J7.out] <;> rfl); clear r7 b7 g7 p7 T1 t1))
        have v2 : w7.cell? ⟨J, 2, none⟩ = some (.slice none 0 0) := by simp only [World.cell?, J7.out]; rfl
        have v1 := HS1.out.2
        have v0 := HS1.out.1
        have HOFF : Hid (OffK ⟨s.ps, s.e, A7, c7, s.k.take 0 ++ []⟩ #[.agg #[.slice A7 0 c7, .slice none 0 0], .int .i64 er] ⟨s.ps, er, A7, c7, s.k.take 0 ++ []⟩ w7) := Lib.hid ⟨none, 0, 0, 0, er, HZ.out, rfl, rfl⟩
        obtain ⟨fn, tmps, assign, body, hy, hY⟩ := HNO.out _ _ _ w7 HOFF.out I7.out Q7.out
        have HY := Lib.hid hY
        clear hY
        gi_wp2
        refine HY.out.mono ?_
        rintro e W' ⟨rfl, S2, Q2⟩
        have HS2 := Lib.hid S2
        have HQ2 := Lib.hid Q2
        clear S2 Q2 HY hy
        gi_wp2
        refine bodyPost_ret (results_none rfl _ _ _) rfl ?_
        exact ⟨⟨_, rfl⟩, .inr ⟨_, HE.out, HS2.out, HQ2.out⟩⟩
    · have hal := (HHO.out.in_ s wr hi.out).len
      have HE := Lib.hid (hle.out.end_ (by rw [hal]; omega))
      clear hal
      gi_wp2
      go_end0
      exact ⟨⟨_, rfl⟩, .inl ⟨s, HE.out, hi.out, hr.out⟩⟩
end Go.Proofs.YtmgggddnfeojmaaGreat
namespace Go.Proofs.YtmgggddnfeojmaaGreat
open Go.RowKit Go.Shelf
attribute [local go_sem] Oper.semAt_some
theorem own_abide {W W' : World} {B size n : Nat} {e : TypeId} {v : Value} {xs : List Value} {row : Option Nat} (h : W.ownsRow B e size v n xs) (hg : W.grownBy W' row) (hr : ∀ r, row = some r → ∃ o : Obj, W.heap[r]? = some o ∧ o.isCells = false) : W'.ownsRow B e size v n xs := by
  refine h.kept hg ?_
  rcases h.2 with ⟨rfl, _⟩ | ⟨g, cap, cur, rfl, _, hgb, _⟩
  · exact .inl rfl
  · refine .inr fun e => ?_
    obtain ⟨o, ho, hc⟩ := hr g (by simpa [Value.ownBlock] using e.symm)
    rw [hgb] at ho
    cases ho
    cases hc
theorem boxed_abide {W W' : World} {B b : Nat} {t : TypeId} {v : Value} {row : Option Nat} (h : Boxed W b t v) (hg : W.grownBy W' row) (hb : b < B) (hr : ∀ r, row = some r → B ≤ r) : Boxed W' b t v :=
  h.kept hg (fun e => by have := hr b e.symm; omega)
theorem boxed_below {W W' : World} {B b : Nat} {t : TypeId} {v : Value} (h : Boxed W b t v) (hb : Below B W W') (hB : b < B) : Boxed W' b t v := (hb.block b hB).trans h
theorem below_grown {W W' : World} (h : Below W.heap.size W W') : W.grownBy W' none := ⟨h.os, h.tape, h.output, h.size, fun k hk _ => h.block k hk⟩
theorem own_set {W : World} {B size n b : Nat} {e : TypeId} {v u : Value} {xs : List Value} (h : W.ownsRow B e size v n xs) (hb : b < B) : (W.setCell ⟨b, 0, none⟩ u).ownsRow B e size v n xs := by
  refine ⟨h.1, ?_⟩
  rcases h.2 with hn | ⟨g, cap, cur, e1, h1, h2, h3⟩
  · exact .inl hn
  · exact .inr ⟨g, cap, cur, e1, h1, by rw [Below.heap_setCell W ⟨b, 0, none⟩ u g (by simp only; omega), h2], h3⟩
/-- A row of another kind than bytes stays while a row of bytes turns. -/
theorem own_other {W W' : World} {B B0 n m c d size : Nat} {e : TypeId} {C A : Option Addr} {K : List Int} {xs : List Value} (he : e ≠ 5) (h : W.ownsRow B e size (.slice C m d) m xs) (hk : Row W B0 A c K) (hg : W.grownBy W' (Value.slice A n c).ownBlock) : W'.ownsRow B e size (.slice C m d) m xs := by
  refine ⟨h.1, ?_⟩
  rcases h.2 with hn | ⟨g, cap, cur, e1, h1, h2, h3⟩
  · exact .inl hn
  · refine .inr ⟨g, cap, cur, e1, h1, ?_, h3⟩
    rw [hg.block g (Array.getElem?_eq_some_iff.1 h2).1 (fun e' => ?_), h2]
    rcases hk.2 with ⟨hn, _⟩ | ⟨g', cap', cur', e2, _, h2', _⟩
    · injection hn with hn
      rw [hn] at e'
      simp [Value.ownBlock] at e'
    · injection e2 with e2
      rw [e2] at e'
      have eg : g = g' := by simpa [Value.ownBlock] using e'
      rw [eg, h2'] at h2
      injection h2 with h2
      injection h2 with _ h2
      exact he h2.symm
/-- Between two rounds of reading. -/
structure StR (H : Nat) (w : World) (A : Option Addr) (n c : Nat) (s : Ks) (T : List Bp) (W : World) : Prop where
  low : Below H w W
  r0 : Boxed W H 141 (.slice none 0 0)
  r1 : Boxed W (H + 1) 30 (.int .i64 0)
  pay : ∃ A' c', Boxed W (H + 2) 141 (.slice A' T.length c') ∧ Prow W (H + 6) A' c' T
  box : Boxed W (H + 3) 42 (.slice A n c)
  rows : Mades W (H + 6) T
  key : Row W (H + 6) s.ka s.kc s.k
  far : Far s.ka T
  rd : rds T = s.ps
def IR (H : Nat) (w : World) (A : Option Addr) (n c : Nat) (s : Ks) (W : World) : Prop := ∃ T, StR H w A n c s T W
/-- A round has left. -/
structure XR (H : Nat) (w : World) (s : Ks) (W : World) : Prop where
  low : Below H w W
  r0 : Boxed W H 141 (.slice none 0 0)
  r1 : Boxed W (H + 1) 30 (.int .i64 s.e)
theorem StR.abide {H : Nat} {w W W' : World} {A : Option Addr} {n c : Nat} {s : Ks} {T : List Bp} {row : Option Nat} (h : StR H w A n c s T W) (hg : W.grownBy W' row) (hw : w.heap.size = H) (hr : ∀ r, row = some r → H + 4 ≤ r ∧ ∃ o : Obj, W.heap[r]? = some o ∧ o.isCells = false) : StR H w A n c s T W' := by
  have hb : ∀ {b : Nat} {t : TypeId} {v : Value}, Boxed W b t v → b < H + 4 → Boxed W' b t v := fun k hlt => boxed_abide k hg hlt (fun r e => (hr r e).1)
  have ho : ∀ {B size n : Nat} {e : TypeId} {v : Value} {xs : List Value}, W.ownsRow B e size v n xs → W'.ownsRow B e size v n xs := fun k => own_abide k hg (fun r e => (hr r e).2)
  obtain ⟨A', c', p1, p2⟩ := h.pay
  exact ⟨h.low.grown hg (by have := h.low.size; omega) (fun k e => by have := (hr k e).1; omega), hb h.r0 (by omega), hb h.r1 (by omega), ⟨A', c', hb p1 (by omega), ho p2⟩, hb h.box (by omega), fun q hq => ⟨ho (h.rows q hq).1, ho (h.rows q hq).2⟩, ho h.key, h.far, h.rd⟩
theorem XR.abide {H : Nat} {w W W' : World} {s : Ks} {row : Option Nat} (h : XR H w s W) (hg : W.grownBy W' row) (hw : w.heap.size = H) (hr : ∀ r, row = some r → H + 4 ≤ r ∧ ∃ o : Obj, W.heap[r]? = some o ∧ o.isCells = false) : XR H w s W' := by
  have hb : ∀ {b : Nat} {t : TypeId} {v : Value}, Boxed W b t v → b < H + 4 → Boxed W' b t v := fun k hlt => boxed_abide k hg hlt (fun r e => (hr r e).1)
  exact ⟨h.low.grown hg (by have := h.low.size; omega) (fun k e => by have := (hr k e).1; omega), hb h.r0 (by omega), hb h.r1 (by omega)⟩
theorem StR.turn {H : Nat} {w W W' : World} {A A' : Option Addr} {n c c' : Nat} {s : Ks} {T : List Bp} {K : List Int} (h : StR H w A n c s T W) (hr : Row W' (H + 6) A' c' K) (hb : Below (H + 6) W W') (hg : W.grownBy W' (Value.slice s.ka 0 s.kc).ownBlock) (hp : ∀ ad, A' = some ad → (∃ a0, s.ka = some a0 ∧ ad.block = a0.block) ∨ W.heap.size ≤ ad.block) : StR H w A n c ⟨s.ps, s.e, A', c', K⟩ T W' := by
  obtain ⟨A2, c2, p1, p2⟩ := h.pay
  have kb : ∀ {b : Nat} {t : TypeId} {v : Value}, Boxed W b t v → b < H + 4 → Boxed W' b t v := fun k hlt => boxed_below k hb (by omega)
  have hin : ∀ {B : Nat} {C : Option Addr} {d : Nat} {M : List Int}, Row W B C d M → ∀ cd, C = some cd → cd.block < W.heap.size := fun k cd e => (own_in k cd e).2
  refine ⟨h.low.trans (hb.mono (by omega)), kb h.r0 (by omega), kb h.r1 (by omega), ⟨A2, c2, kb p1 (by omega), own_other (by decide) p2 h.key hg⟩, kb h.box (by omega), fun q hq => ⟨own_far (h.rows q hq).1 hg (fun ad e cd e' => (h.far q hq ad e).1 cd e'), own_far (h.rows q hq).2 hg (fun ad e cd e' => (h.far q hq ad e).2 cd e')⟩, hr, fun q hq ad e => ?_, h.rd⟩
  rcases hp ad e with ⟨a0, e0, eb⟩ | hge
  · rw [eb]
    exact h.far q hq a0 e0
  · refine ⟨fun bd e' => ?_, fun bd e' => ?_⟩
    · have := hin (h.rows q hq).1 bd e'
      omega
    · have := hin (h.rows q hq).2 bd e'
      omega
theorem hostR {H : Nat} {w : World} {A : Option Addr} {L : List Int} {n c : Nat} (h : In w A L n c) (hw : w.heap.size = H) : Host (H + 6) (H + 3) A L n c (IR H w A n c) where
  box := fun s W ⟨T, hs⟩ => hs.box.cell
  in_ := fun s W ⟨T, hs⟩ => h.kept (by rw [hw]; exact hs.low)
  key := fun s W ⟨T, hs⟩ => hs.key
  bel := fun s W W' ⟨T, hs⟩ hb => ⟨T, hs.abide (below_grown hb) hw (fun r e => by cases e)⟩
  turn := fun s W W' A' c' K ⟨T, hs⟩ hr hb hg hp => ⟨T, hs.turn hr hb hg hp⟩
end Go.Proofs.YtmgggddnfeojmaaGreat
