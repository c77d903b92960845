/-
  Walks: the document's own shares: the parts.
-/
import Derived.Test.YtefkabkncmflpaaDoorSplA
import Derived.Test.YtefkabkncmflpaaDoorPick
namespace Go.Proofs.YtefkabkncmflpaaDoor
open Go.RowKit Go.Sort Go.Shelf

theorem back_pos (x : Int) (_h0 : 0 ≤ x) (h1 : x ≤ 9223372036854775807) : backV x false = (x, true) := by simp [backV, h1]
theorem backP (f : Nat → Int) (x : Int) (w : World) (hf : InR f) (hx : val f 20 = x) (h0 : 0 ≤ x) (h1 : x ≤ 9223372036854775807) :
    Calls Tryd.prog 32 #[.agg (nat20 f), .bool false] w fun e w' => e = .returned (.tuple #[.int .i64 x, .bool true]) ∧ Below w.heap.size w w' :=
  (back_any f false w hf).mono fun e w' h => ⟨by rw [h.1, hx, back_pos x h0 h1], h.2⟩

/-- What the division leaves in memory, beside the rows. -/
structure Sp2 (w wx : World) (gz g1 g2 n g4 g5 : Nat) (sz : Int) (F R q r : Nat → Int) : Prop where
  sp : Sp w wx gz g1 g2 n sz F R
  rq : wx.rowIs g4 58 20 (dig q)
  rr : wx.rowIs g5 58 20 (dig r)
  n41 : g4 ≠ g1
  n51 : g5 ≠ g1
  n42 : g4 ≠ g2
  n52 : g5 ≠ g2
theorem Sp2.keep {w wr w' : World} {gz g1 g2 n g4 g5 : Nat} {sz : Int} {F R q r : Nat → Int} (h : Sp2 w wr gz g1 g2 n g4 g5 sz F R q r) (hb : Below wr.heap.size wr w') : Sp2 w w' gz g1 g2 n g4 g5 sz F R q r :=
  ⟨h.sp.keep hb, row_kept h.rq hb, row_kept h.rr hb, h.n41, h.n51, h.n42, h.n52⟩
theorem Sp2.setS {w wr : World} {gz g1 g2 n g4 g5 : Nat} {sz : Int} {F R q r : Nat → Int} (h : Sp2 w wr gz g1 g2 n g4 g5 sz F R q r) (k : Nat) (v : Int) : Sp2 w (wr.setCell ⟨g1, k, none⟩ (.int .i64 v)) gz g1 g2 n g4 g5 sz (put F k v) R q r :=
  ⟨h.sp.setS k v, h.rq.setOther h.n41 _, h.rr.setOther h.n51 _, h.n41, h.n51, h.n42, h.n52⟩
theorem Sp2.setR {w wr : World} {gz g1 g2 n g4 g5 : Nat} {sz : Int} {F R q r : Nat → Int} (h : Sp2 w wr gz g1 g2 n g4 g5 sz F R q r) (k : Nat) (v : Int) : Sp2 w (wr.setCell ⟨g2, k, none⟩ (.int .i64 v)) gz g1 g2 n g4 g5 sz F (put R k v) q r :=
  ⟨h.sp.setR k v, h.rq.setOther h.n42 _, h.rr.setOther h.n52 _, h.n41, h.n51, h.n42, h.n52⟩

/-- The first k of a row written. -/
def upTo (f : Nat → Int) (k i : Nat) : Int := if i < k then f i else 0
theorem put_upTo (f : Nat → Int) (k : Nat) : put (upTo f k) k (f k) = upTo f (k + 1) := by
  funext i
  unfold put upTo
  by_cases e : i = k
  · rw [if_pos e, if_pos (by omega), e]
  · rw [if_neg e]
    by_cases g : i < k
    · rw [if_pos g, if_pos (by omega)]
    · rw [if_neg g, if_neg (by omega)]

/-- What of memory the parts leave: the shares rounded down, the rests. -/
def Parted (w : World) (T S : Int) (wt : Nat → Int) (n : Nat) (g1 g2 gz : Nat) (wx : World) : Prop := Sp w wx gz g1 g2 n T (upTo (part T S wt) n) (upTo (over T S wt) n)

section
variable {P : Program} {ops : Array Oper} {o : Oper} {a : Act} {S : World → Prop}
theorem held_load_of {v : Array Value} (hgd : o.guard = none) (ty : TypeId) (x : Operand) (hop : o.op = .load ty x)
    (g : Nat) (hx : a.eval x = .pointer (some ⟨g, 0, none⟩)) (t : TypeId) (fr : Nat × Nat) (d : TypeDesc) (hS : ∀ w, S w → w.heap[g]? = some (.cells v t fr))
    (hu : P.underlying ty = some d) (hd : (match d with | .struct _ | .array _ _ => true | _ => false) = true) (hi : (P.info? ty).map (·.size) = some v.size) :
    YieldsIf P ops S o (.agg v) a :=
  Or.inl ⟨by simp [Region.wanted, hgd], fun w hw => by
    unfold execOp
    simp only [hop, hx, Instr.loadAt, Instr.sureAddr, Sem.run_bind, Sem.run_pure, Result.andThen_ok, run_loadVar_row w g t ty v fr d (hS w hw) hu hd hi]⟩
end

/-- What the division answers. -/
def QR (a b : Int) (q r : Nat → Int) : Prop := InR q ∧ InR r ∧ val q 20 = a / b ∧ val r 20 = a % b
theorem over_qr (sz x S : Int) (w : World) (z0 : 0 ≤ sz) (z1 : sz ≤ 1000000000000000) (x0 : 0 ≤ x) (x1 : x ≤ 1000000000) (S0 : 0 < S) (S1 : S ≤ 1024000000000) :
    Calls Tryd.prog 40 #[.agg (nat20 (tf (ofD sz) (ofD x) 20)), .agg (nat20 (ofD S))] w fun e w' => ∃ q r : Nat → Int, e = .returned (.tuple #[.agg (nat20 q), .agg (nat20 r)]) ∧ QR (sz * x) S q r ∧ Below w.heap.size w w' := by
  have e1 : val (ofD sz) 20 = sz := ofD_val _ z0 (by omega)
  have e2 : val (ofD x) 20 = x := ofD_val _ x0 (by omega)
  have e3 : val (ofD S) 20 = S := ofD_val _ (by omega) (by omega)
  have b1 : (1000000000000000 : Int) * 1000000000 < 65536 ^ 20 := by decide
  have b2 : sz * x ≤ 1000000000000000 * 1000000000 := Int.mul_le_mul z1 x1 x0 (by omega)
  have b3 : (2 : Int) * 1024000000000 ≤ 65536 ^ 20 := by decide
  have e4 : val (tf (ofD sz) (ofD x) 20) 20 = sz * x := by rw [times_in _ _ (ofD_in _) (ofD_in _) (by rw [e1, e2]; omega), e1, e2]
  refine (over20_any _ _ w (tf_in _ _ _) (ofD_in _) (by rw [e3]; exact S0) (by rw [e3]; omega)).mono ?_
  rintro e w' ⟨q, r, rfl, a1, a2, a3, a4, hb⟩
  rw [e4, e3] at a3 a4
  exact ⟨q, r, rfl, ⟨a1, a2, a3, a4⟩, hb⟩
theorem part_bd (sz x S : Int) (z0 : 0 ≤ sz) (z1 : sz ≤ 1000000000000000) (x0 : 0 ≤ x) (x1 : x ≤ 1000000000) (S0 : 0 < S) : 0 ≤ sz * x / S ∧ sz * x / S ≤ 1000000000000000 * 1000000000 ∧ 0 ≤ sz * x % S ∧ sz * x % S < S := by
  have h := Int.mul_nonneg z0 x0
  have b2 : sz * x ≤ 1000000000000000 * 1000000000 := Int.mul_le_mul z1 x1 x0 (by omega)
  refine ⟨Int.ediv_nonneg h (by omega), ?_, Int.emod_nonneg _ (by omega), Int.emod_lt_of_pos _ S0⟩
  have := Int.ediv_le_self S h
  omega

theorem Sp.congr {w wr : World} {gz g1 g2 n : Nat} {sz : Int} {F R F' R' : Nat → Int} (h : Sp w wr gz g1 g2 n sz F R) (hf : ∀ i, i < n → F i = F' i) (hr : ∀ i, i < n → R i = R' i) : Sp w wr gz g1 g2 n sz F' R' :=
  ⟨h.z, h.s.congr fun i hi => by unfold ints; rw [hf i hi], h.r.congr fun i hi => by unfold ints; rw [hr i hi], h.n12, h.nz1, h.nz2, h.h1, h.h2, h.bl⟩

/-- What the document's Split leaves behind. -/
def SplDone {m : Nat} (w : World) (T S : Int) (wt : Nat → Int) (p : Array (Pl m)) (n : Nat) (e : Ending) (w' : World) : Prop :=
  ∃ (L g : Nat), e = .returned (.tuple #[.slice (some ⟨g, 0, none⟩) n n, .int .i64 0]) ∧ (L : Int) = size T - sumTo (part (size T) S wt) n ∧ L ≤ n ∧ w.heap.size ≤ g ∧
    w'.rowIs g 2 n (fun i => .int .i64 (signOf T (got (size T) S wt p L i))) ∧ Below w.heap.size w w'

set_option maxRecDepth 100000 in
set_option maxHeartbeats 8000000 in
theorem refSplit_parts {m : Nat} (p : Array (Pl m)) (T S : Int) (wt : Nat → Int) (ad : Addr) (n cw : Nat) (hM : m + 1 = n) (pB : Blk p 0 n) (pS : Srt (fun i => over (size T) S wt i.val) p 0 n) (w : World) (hn0 : 0 < n) (hn : n ≤ 1024) (T0 : -1000000000000000 ≤ T) (T1 : T ≤ 1000000000000000) (hbw : ad.block < w.heap.size)
    (hc : ∀ i, i < n → w.cell? (ad.add i) = some (.int .i64 (wt i))) (hok : WtOk wt n) (hS : sumTo wt n = S) (S0 : 0 < S) :
    Calls Tryd.prog 22 #[.int .i64 T, .slice (some ad) n cw] w (SplDone w T S wt p n) := by
  obtain ⟨i2, hi2, hz20, hz21, hz22⟩ := info_parts info2
  have h0 : ((n : Int) == 0) = false := by simp; omega
  have h1 : (n : Int) ≤ 1024 := by omega
  have h1d : decide (1024 < (n : Int)) = false := by simp; omega
  have HC := Lib.hid hc
  have HS := Lib.hid (fun k (hk : k ≤ n) => sum_bd hok k hk (by omega))
  have HO := Lib.hid hok
  have S1 : S ≤ 1024000000000 := by have := sum_bd hok n (Nat.le_refl _) hn; omega
  have HSS := Lib.hid hS
  have HPB := Lib.hid pB
  have HPS := Lib.hid pS
  have HM := Lib.hid hM
  clear hc hok hS pB pS hM
  go_enter Tryd.func22, Tryd.ntmps22
  go_wp2
  go_loop [6, 29] (fun t6 t29 => ∃ k : Nat, k ≤ n ∧ t6 = .int .i64 (sumTo wt k) ∧ t29 = .int .i64 k) (fun _ t29 => n - (intOf t29).toNat)
  case atStart => exact ⟨0, by omega, rfl, rfl⟩
  case round =>
    obtain ⟨k, hk, rfl, rfl⟩ := hrel
    obtain ⟨s0, s1⟩ := HS.out k hk
    by_cases hlt : k < n
    · have ck := HC.out k hlt
      have hki : (k : Int) < n := by omega
      obtain ⟨o0, o1⟩ := HO.out k hlt
      have SM := Lib.hid (show sumTo wt (k + 1) = sumTo wt k + wt k from rfl)
      have b0 : decide (wt k < 0) = false := by simp; omega
      have b1 : decide (1000000000 < wt k) = false := by simp; omega
      generalize wt k = x at *
      generalize sumTo wt k = y at *
      go_wp2
      go_round
      case rel => exact ⟨k + 1, by omega, by rw [SM.out], by go_num⟩
      case measure => simp [intOf]; omega
    · obtain rfl : k = n := by omega
      rw [HSS.out]
      have b0 : (S == 0) = false := by simp; omega
      have b1 : decide (T < -1000000000000000) = false := by simp; omega
      have b2 : decide (1000000000000000 < T) = false := by simp; omega
      have z0 := size_nonneg T
      have z1 : size T ≤ 1000000000000000 := by unfold size; omega
      clear s0 s1
      go_upto_region 14 with (first | (go_at_call 35; refine (refSize_any T _ (by omega) (by omega)).mono ?_; rintro e w1 ⟨rfl, hb1⟩; have z5 := row_of _ _ _ (row_new w1 fun _ => 0); rw [← zeros20] at z5) | (with_reducible refine wpList_store_row rfl 58 _ _ rfl w1.heap.size _ rfl rfl 58 _ z5 (by kernel_rfl) (by kernel_rfl) (by kernel_rfl) ?_))
      rw [zeros20]
      simp only [Act.put]
      have Z0 : Hid (((w1.alloc (.cells (nat20 fun _ => 0) 58)).setRow w1.heap.size (nat20 (ofD (size T)))).rowIs w1.heap.size 58 20 (dig (ofD (size T)))) := Lib.hid (row_setRow _ (row_of _ _ _ (row_new w1 fun _ => 0)))
      have B0 : Hid (Below w.heap.size w ((w1.alloc (.cells (nat20 fun _ => 0) 58)).setRow w1.heap.size (nat20 (ofD (size T))))) := Lib.hid (below_setRow (hb1.alloc hb1.size _) hb1.size _)
      have L0 := Lib.hid hb1.size
      clear z5 hb1
      generalize (w1.alloc (.cells (nat20 fun _ => 0) 58)).setRow w1.heap.size (nat20 (ofD (size T))) = w2 at Z0 B0 ⊢
      generalize w1.heap.size = gz at Z0 L0 ⊢
      have gzr := row_of _ _ _ Z0.out
      generalize hsz : size T = sz at *
      have HSZ := Lib.hid hsz
      clear hsz
      go_upto_region 15 with (first | (with_reducible refine wpList_load_row rfl 58 _ rfl gz rfl 58 _ (0, 0) _ gzr Tryd.underlying58 rfl (by kernel_rfl) ?_) | (go_at_call 32; refine (backP _ sz _ (ofD_in _) (ofD_val _ z0 (by omega)) z0 (by omega)).mono ?_; rintro e w3 ⟨rfl, hb3⟩))
      have Z3 := Lib.hid (row_kept Z0.out hb3)
      have B3 := Lib.hid (B0.out.trans (hb3.mono B0.out.size))
      clear gzr hb3 Z0 B0
      go_wp2_with (at_make; refine wpList_make_row _ rfl _ _ 36 rfl 2 i2 (.int .i64 0) Tryd.underlying36 hi2 hz20 hz21 rfl .i64 .i64 k rfl rfl (by rw [hz22]; omega) (by omega) ?_)
      have SP0 : Hid (Sp w ((w3.alloc (.cells (madeCells #[.int .i64 0] k) 2)).alloc (.cells (madeCells #[.int .i64 0] k) 2)) gz w3.heap.size (w3.heap.size + 1) k sz (upTo (part sz S wt) 0) (upTo (over sz S wt) 0)) := by
        apply Lib.hid
        have q1 := (World.rowIs_made w3 (.int .i64 0) k 2).alloc (.cells (madeCells #[.int .i64 0] k) 2)
        have q2 := World.rowIs_made (w3.alloc (.cells (madeCells #[.int .i64 0] k) 2)) (.int .i64 0) k 2
        simp only [World.size_alloc] at q2
        have lz := Z3.out.lt
        exact ⟨(Z3.out.alloc _).alloc _, q1.congr fun i _ => by simp [ints, upTo], q2.congr fun i _ => by simp [ints, upTo], by omega, by omega, by omega, B3.out.size, Nat.le_succ_of_le B3.out.size, (B3.out.alloc B3.out.size _).alloc (by rw [World.size_alloc]; have := B3.out.size; omega) _⟩
      clear Z3 B3 hi2 hz20 hz21 hz22
      generalize (w3.alloc (.cells (madeCells #[.int .i64 0] k) 2)).alloc (.cells (madeCells #[.int .i64 0] k) 2) = w4 at SP0 ⊢
      generalize w3.heap.size + 1 = g2 at SP0 ⊢
      generalize w3.heap.size = g1 at SP0 ⊢
      go_loopw [9, 76] (fun t9 t76 wr => ∃ j : Nat, j ≤ k ∧ t9 = .int .i64 (sz - sumTo (part sz S wt) j) ∧ t76 = .int .i64 j ∧ Hid (Sp w wr gz g1 g2 k sz (upTo (part sz S wt) j) (upTo (over sz S wt) j))) (fun _ t76 _ => k - (intOf t76).toNat)
      case atStart => exact ⟨0, by omega, by simp [sumTo], rfl, SP0⟩
      case round =>
        obtain ⟨j, hj, rfl, rfl, hSP⟩ := hrel
        have p0 := sumTo_nonneg (f := part sz S wt) (n := j) fun i hi => part_nonneg sz S wt i z0 S0 (HO.out i (by omega)).1
        have p1 := parts_le sz S wt j z0 S0 (fun i hi => (HO.out i (by omega)).1) (by
          have h1 := sumTo_mono (f := wt) (k := j) (n := k) (by omega) fun i hi => (HO.out i hi).1
          have h3 := HSS.out
          omega)
        by_cases hlt : j < k
        · have hji : (j : Int) < k := by omega
          obtain ⟨x0, x1⟩ := HO.out j hlt
          have cw0 : wr.cell? (ad.add j) = some (.int .i64 (wt j)) := by rw [hSP.out.bl.cell (p := ad.add j) (by rw [add_block]; exact hbw)]; exact HC.out j hlt
          have SM := Lib.hid (show sumTo (part sz S wt) (j + 1) = sumTo (part sz S wt) j + part sz S wt j from rfl)
          have p2 := parts_le sz S wt (j + 1) z0 S0 (fun i hi => (HO.out i (by omega)).1) (by
            have h1 := sumTo_mono (f := wt) (k := j + 1) (n := k) (by omega) fun i hi => (HO.out i hi).1
            have h3 := HSS.out
            omega)
          rw [SM.out] at p2
          obtain ⟨pb0, pb1, pb2, pb3⟩ := part_bd sz (wt j) S z0 z1 x0 x1 S0
          have EP := Lib.hid (show part sz S wt j = sz * wt j / S from rfl)
          have EO := Lib.hid (show over sz S wt j = sz * wt j % S from rfl)
          have PU := Lib.hid (put_upTo (part sz S wt) j)
          have OU := Lib.hid (put_upTo (over sz S wt) j)
          obtain ⟨x, hx⟩ : ∃ x, wt j = x := ⟨_, rfl⟩
          rw [hx] at cw0 x0 x1 pb0 pb1 pb2 pb3 EP EO
          have HX := Lib.hid hx
          clear hx
          have SX := Lib.hid (fun w => by have := refSize_any x w (by omega) (by omega); rw [show size x = x by unfold size; omega] at this; exact this)
          have SS := Lib.hid (fun w => by have := refSize_any S w (by omega) (by omega); rw [show size S = S by unfold size; omega] at this; exact this)
          have TM := Lib.hid (fun w => times20_any (ofD sz) (ofD x) w (ofD_in _) (ofD_in _))
          have OV := Lib.hid (fun w => over_qr sz x S w z0 z1 x0 x1 S0 S1)
          have lz := hSP.out.z.lt
          have lb : ad.block < wr.heap.size := Nat.lt_of_lt_of_le hbw hSP.out.bl.size
          have DW : Hid (SplR wr wr gz ad j sz x) := Lib.hid ⟨hSP.out.z, cw0, Below.refl _ _, lz, lb⟩
          go_upto_region 20 with fail
          go_cut [14, 15] from 79 to 91 (fun t14 t15 wx => ∃ (g4 g5 : Nat) (q r : Nat → Int), t14 = .pointer (some ⟨g4, 0, none⟩) ∧ t15 = .pointer (some ⟨g5, 0, none⟩) ∧ Hid (SplTwo wr wx gz ad j sz x q r g4 g5) ∧ Hid (QR (sz * x) S q r))
          case first =>
            refine wp_region_held (S := fun w' => w'.heap[gz]? = some (.cells (nat20 (ofD sz)) 58 (0, 0)) ∧ w'.cell? (ad.add j) = some (.int .i64 x)) (by kernel_rfl) ?_
            change wpAnyH _ _ _ _ _ _ _ _ (World.drew _)
            have D0 : Hid (SplR wr wr.drew gz ad j sz x) := Lib.hid (DW.out.keep (drewN_below _ _ 1))
            clear DW hSP SP0 cw0 lz lb p0 p1 p2 pb0 pb1 pb2 pb3 EP EO PU OU HX SM HC HS HO HSS
            generalize wr.drew = w0 at D0 ⊢
            refine wpAnyH_take (i := 0) (v := .agg (nat20 (ofD sz))) rfl (by kernel_rfl) (by kernel_rfl) (by kernel_rfl) (fun _ _ _ h => h) (held_load_of rfl 58 _ rfl gz rfl 58 (0, 0) _ (fun _ h => h.1) Tryd.underlying58 rfl (by kernel_rfl)) ⟨row_of _ _ _ D0.out.z, D0.out.c⟩ ?_
            refine wpAnyH_take (i := 1) (v := .slice (some ad) k cw) rfl (by kernel_rfl) (by kernel_rfl) (by kernel_rfl) (fun _ _ _ h => h) (Or.inl ⟨by rfl, fun _ _ => by go_simp⟩) ⟨row_of _ _ _ D0.out.z, D0.out.c⟩ ?_
            refine wpAnyH_take (i := 2) (v := .int .i64 j) rfl (by kernel_rfl) (by kernel_rfl) (by kernel_rfl) (fun _ _ _ h => h) (Or.inl ⟨by rfl, fun _ _ => by go_simp⟩) ⟨row_of _ _ _ D0.out.z, D0.out.c⟩ ?_
            refine wpAnyH_take (i := 3) (v := .pointer (some (ad.add j))) rfl (by kernel_rfl) (by kernel_rfl) (by kernel_rfl) (fun _ _ _ h => h) (Or.inl ⟨by rfl, fun _ _ => by go_simp⟩) ⟨row_of _ _ _ D0.out.z, D0.out.c⟩ ?_
            refine wpAnyH_take (i := 4) (v := .int .i64 x) rfl (by kernel_rfl) (by kernel_rfl) (by kernel_rfl) (fun _ _ _ h => h) (Or.inl ⟨by rfl, fun _ hS => by have := hS.2; go_simp⟩) ⟨row_of _ _ _ D0.out.z, D0.out.c⟩ ?_
            refine wpAnyH_take (i := 7) (v := .int .i64 S) rfl (by kernel_rfl) (by kernel_rfl) (by kernel_rfl) (fun _ _ _ h => h) (Or.inl ⟨by rfl, fun _ _ => by go_simp⟩) ⟨row_of _ _ _ D0.out.z, D0.out.c⟩ ?_
            refine wpAnyH_all (rs := [5, 13, 14]) (by kernel_rfl) (by simp) ?_
            refine AllHeld.cons rfl (fun K hK => ?_) ?_
            · go_simp
              refine (SX.out _).mono ?_
              rintro e w1 ⟨rfl, hb1⟩
              have D1 := Lib.hid (D0.out.keep hb1)
              refine hK _ _ ⟨row_of _ _ _ D1.out.z, D1.out.c⟩ ?_
              clear hK K hb1
              refine wpAnyH_all (rs := [6, 13, 14]) (by kernel_rfl) (by simp) ?_
              refine AllHeld.cons rfl (fun K hK => ?_) ?_
              · go_simp
                refine (TM.out _).mono ?_
                rintro e w2 ⟨rfl, hb2⟩
                have D2 := Lib.hid (D1.out.keep hb2)
                refine hK _ _ ⟨row_of _ _ _ D2.out.z, D2.out.c⟩ ?_
                clear hK K hb2
                refine wpAnyH_all (rs := [8, 13, 14]) (by kernel_rfl) (by simp) ?_
                refine AllHeld.cons rfl (fun K hK => ?_) ?_
                · go_simp
                  refine (SS.out _).mono ?_
                  rintro e w3 ⟨rfl, hb3⟩
                  have D3 := Lib.hid (D2.out.keep hb3)
                  refine hK _ _ ⟨row_of _ _ _ D3.out.z, D3.out.c⟩ ?_
                  clear hK K hb3
                  refine wpAnyH_all (rs := [9, 13, 14]) (by kernel_rfl) (by simp) ?_
                  refine AllHeld.cons rfl (fun K hK => ?_) ?_
                  · go_simp
                    refine (OV.out _).mono ?_
                    rintro e w4 ⟨q, r, rfl, hqr, hb4⟩
                    have HQR := Lib.hid hqr
                    clear hqr
                    have D4 := Lib.hid (D3.out.keep hb4)
                    refine hK _ _ ⟨row_of _ _ _ D4.out.z, D4.out.c⟩ ?_
                    clear hK K hb4
                    refine wpAnyH_take (i := 10) (v := .tuple #[.agg (nat20 q), .agg (nat20 r)]) rfl (by kernel_rfl) (by kernel_rfl) (by kernel_rfl) (fun _ _ _ h => h) (Or.inl ⟨by rfl, fun _ _ => by go_simp⟩) ⟨row_of _ _ _ D4.out.z, D4.out.c⟩ ?_
                    refine wpAnyH_take (i := 11) (v := .agg (nat20 q)) rfl (by kernel_rfl) (by kernel_rfl) (by kernel_rfl) (fun _ _ _ h => h) (Or.inl ⟨by rfl, fun _ _ => by go_simp⟩) ⟨row_of _ _ _ D4.out.z, D4.out.c⟩ ?_
                    refine wpAnyH_take (i := 12) (v := .agg (nat20 r)) rfl (by kernel_rfl) (by kernel_rfl) (by kernel_rfl) (fun _ _ _ h => h) (Or.inl ⟨by rfl, fun _ _ => by go_simp⟩) ⟨row_of _ _ _ D4.out.z, D4.out.c⟩ ?_
                    refine wpAnyH_all (rs := [13, 14]) (by kernel_rfl) (by simp) ?_
                    refine AllHeld.cons rfl (fun K hK => ?_) ?_
                    · go_simp
                      rw [zeros20]
                      have D5 := Lib.hid (D4.out.keep ((Below.refl _ _).alloc (Nat.le_refl _) (.cells (nat20 fun _ => 0) 58)))
                      have Z4 := Lib.hid (row_new w4 fun _ => 0)
                      have L4 := Lib.hid D4.out.bl.size
                      refine hK _ _ ⟨row_of _ _ _ D5.out.z, D5.out.c⟩ ?_
                      clear hK K
                      generalize w4.alloc (.cells (nat20 fun _ => 0) 58) = w5 at D5 Z4 ⊢
                      generalize w4.heap.size = g4 at Z4 L4 ⊢
                      refine wpAnyH_all (rs := [14]) (by kernel_rfl) (by simp) ?_
                      refine AllHeld.cons rfl (fun K hK => ?_) ?_
                      · go_simp
                        rw [zeros20]
                        have YY := Lib.hid Z4.out.lt
                        have D6 := Lib.hid (D5.out.keep ((Below.refl _ _).alloc (Nat.le_refl _) (.cells (nat20 fun _ => 0) 58)))
                        have Z4 := Lib.hid (Z4.out.alloc (.cells (nat20 fun _ => 0) 58))
                        have Z5 := Lib.hid (row_new w5 fun _ => 0)
                        have L5 := Lib.hid D5.out.bl.size
                        refine hK _ _ ⟨row_of _ _ _ D6.out.z, D6.out.c⟩ ?_
                        clear hK K
                        generalize w5.alloc (.cells (nat20 fun _ => 0) 58) = w6 at D6 Z5 Z4 ⊢
                        generalize w5.heap.size = g5 at Z5 L5 YY ⊢
                        have NN : Hid (g4 ≠ g5) := Lib.hid (show g4 ≠ g5 by have := YY.out; omega)
                        refine wpAnyH_all (rs := [15]) (by kernel_rfl) (by simp) ?_
                        have T0 := Lib.hid (SplTwo.mk D6.out Z4.out Z5.out NN.out L4.out L5.out)
                        have gg := row_of _ _ _ T0.out.rq
                        refine held_store rfl rfl 58 _ _ rfl g4 _ rfl rfl 58 _ gg (by kernel_rfl) (by kernel_rfl) (by kernel_rfl) ⟨row_of _ _ _ (T0.out.set4 q).s.z, (T0.out.set4 q).s.c⟩ ?_ ?_
                        · have T1 := Lib.hid (T0.out.set4 q)
                          generalize w6.setRow g4 (nat20 q) = wy at T1 ⊢
                          clear gg
                          refine wpAnyH_all (rs := [16]) (by kernel_rfl) (by simp) ?_
                          have gg := row_of _ _ _ T1.out.rr
                          refine held_store rfl rfl 58 _ _ rfl g5 _ rfl rfl 58 _ gg (by kernel_rfl) (by kernel_rfl) (by kernel_rfl) ⟨row_of _ _ _ (T1.out.set5 r).s.z, (T1.out.set5 r).s.c⟩ ?_ ?_
                          · have T2 := Lib.hid (T1.out.set5 r)
                            generalize wy.setRow g5 (nat20 r) = wz at T2 ⊢
                            clear gg
                            refine wpAnyH_done (by kernel_rfl) ?_ _
                            go_wp2_with fail
                            go_meet
                            exact ⟨g4, g5, q, r, rfl, rfl, T2, HQR⟩
                          · exact AllHeld.nil
                        · exact AllHeld.nil
                      · exact AllHeld.nil
                    · refine AllHeld.cons rfl (fun K hK => ?_) ?_
                      · go_simp
                        rw [zeros20]
                        have D5 := Lib.hid (D4.out.keep ((Below.refl _ _).alloc (Nat.le_refl _) (.cells (nat20 fun _ => 0) 58)))
                        have Z5 := Lib.hid (row_new w4 fun _ => 0)
                        have L5 := Lib.hid D4.out.bl.size
                        refine hK _ _ ⟨row_of _ _ _ D5.out.z, D5.out.c⟩ ?_
                        clear hK K
                        generalize w4.alloc (.cells (nat20 fun _ => 0) 58) = w5 at D5 Z5 ⊢
                        generalize w4.heap.size = g5 at Z5 L5 ⊢
                        refine wpAnyH_all (rs := [13]) (by kernel_rfl) (by simp) ?_
                        refine AllHeld.cons rfl (fun K hK => ?_) ?_
                        · go_simp
                          rw [zeros20]
                          have YY := Lib.hid Z5.out.lt
                          have D6 := Lib.hid (D5.out.keep ((Below.refl _ _).alloc (Nat.le_refl _) (.cells (nat20 fun _ => 0) 58)))
                          have Z5 := Lib.hid (Z5.out.alloc (.cells (nat20 fun _ => 0) 58))
                          have Z4 := Lib.hid (row_new w5 fun _ => 0)
                          have L4 := Lib.hid D5.out.bl.size
                          refine hK _ _ ⟨row_of _ _ _ D6.out.z, D6.out.c⟩ ?_
                          clear hK K
                          generalize w5.alloc (.cells (nat20 fun _ => 0) 58) = w6 at D6 Z4 Z5 ⊢
                          generalize w5.heap.size = g4 at Z4 L4 YY ⊢
                          have NN : Hid (g4 ≠ g5) := Lib.hid (show g4 ≠ g5 by have := YY.out; omega)
                          refine wpAnyH_all (rs := [15]) (by kernel_rfl) (by simp) ?_
                          have T0 := Lib.hid (SplTwo.mk D6.out Z4.out Z5.out NN.out L4.out L5.out)
                          have gg := row_of _ _ _ T0.out.rq
                          refine held_store rfl rfl 58 _ _ rfl g4 _ rfl rfl 58 _ gg (by kernel_rfl) (by kernel_rfl) (by kernel_rfl) ⟨row_of _ _ _ (T0.out.set4 q).s.z, (T0.out.set4 q).s.c⟩ ?_ ?_
                          · have T1 := Lib.hid (T0.out.set4 q)
                            generalize w6.setRow g4 (nat20 q) = wy at T1 ⊢
                            clear gg
                            refine wpAnyH_all (rs := [16]) (by kernel_rfl) (by simp) ?_
                            have gg := row_of _ _ _ T1.out.rr
                            refine held_store rfl rfl 58 _ _ rfl g5 _ rfl rfl 58 _ gg (by kernel_rfl) (by kernel_rfl) (by kernel_rfl) ⟨row_of _ _ _ (T1.out.set5 r).s.z, (T1.out.set5 r).s.c⟩ ?_ ?_
                            · have T2 := Lib.hid (T1.out.set5 r)
                              generalize wy.setRow g5 (nat20 r) = wz at T2 ⊢
                              clear gg
                              refine wpAnyH_done (by kernel_rfl) ?_ _
                              go_wp2_with fail
                              go_meet
                              exact ⟨g4, g5, q, r, rfl, rfl, T2, HQR⟩
                            · exact AllHeld.nil
                          · exact AllHeld.nil
                        · exact AllHeld.nil
                      · exact AllHeld.nil
                  · refine AllHeld.cons rfl (fun K hK => ?_) ?_
                    · go_simp
                      rw [zeros20]
                      have D4 := Lib.hid (D3.out.keep ((Below.refl _ _).alloc (Nat.le_refl _) (.cells (nat20 fun _ => 0) 58)))
                      have Z4 := Lib.hid (row_new w3 fun _ => 0)
                      have L4 := Lib.hid D3.out.bl.size
                      refine hK _ _ ⟨row_of _ _ _ D4.out.z, D4.out.c⟩ ?_
                      clear hK K
                      generalize w3.alloc (.cells (nat20 fun _ => 0) 58) = w4 at D4 Z4 ⊢
                      generalize w3.heap.size = g4 at Z4 L4 ⊢
                      refine wpAnyH_all (rs := [9, 14]) (by kernel_rfl) (by simp) ?_
                      refine AllHeld.cons rfl (fun K hK => ?_) ?_
                      · go_simp
                        refine (OV.out _).mono ?_
                        rintro e w5 ⟨q, r, rfl, hqr, hb5⟩
                        have HQR := Lib.hid hqr
                        clear hqr
                        have D5 := Lib.hid (D4.out.keep hb5)
                        have Z4 := Lib.hid (row_kept Z4.out hb5)
                        refine hK _ _ ⟨row_of _ _ _ D5.out.z, D5.out.c⟩ ?_
                        clear hK K hb5
                        refine wpAnyH_take (i := 10) (v := .tuple #[.agg (nat20 q), .agg (nat20 r)]) rfl (by kernel_rfl) (by kernel_rfl) (by kernel_rfl) (fun _ _ _ h => h) (Or.inl ⟨by rfl, fun _ _ => by go_simp⟩) ⟨row_of _ _ _ D5.out.z, D5.out.c⟩ ?_
                        refine wpAnyH_take (i := 11) (v := .agg (nat20 q)) rfl (by kernel_rfl) (by kernel_rfl) (by kernel_rfl) (fun _ _ _ h => h) (Or.inl ⟨by rfl, fun _ _ => by go_simp⟩) ⟨row_of _ _ _ D5.out.z, D5.out.c⟩ ?_
                        refine wpAnyH_take (i := 12) (v := .agg (nat20 r)) rfl (by kernel_rfl) (by kernel_rfl) (by kernel_rfl) (fun _ _ _ h => h) (Or.inl ⟨by rfl, fun _ _ => by go_simp⟩) ⟨row_of _ _ _ D5.out.z, D5.out.c⟩ ?_
                        refine wpAnyH_all (rs := [14]) (by kernel_rfl) (by simp) ?_
                        refine AllHeld.cons rfl (fun K hK => ?_) ?_
                        · go_simp
                          rw [zeros20]
                          have YY := Lib.hid Z4.out.lt
                          have D6 := Lib.hid (D5.out.keep ((Below.refl _ _).alloc (Nat.le_refl _) (.cells (nat20 fun _ => 0) 58)))
                          have Z4 := Lib.hid (Z4.out.alloc (.cells (nat20 fun _ => 0) 58))
                          have Z5 := Lib.hid (row_new w5 fun _ => 0)
                          have L5 := Lib.hid D5.out.bl.size
                          refine hK _ _ ⟨row_of _ _ _ D6.out.z, D6.out.c⟩ ?_
                          clear hK K
                          generalize w5.alloc (.cells (nat20 fun _ => 0) 58) = w6 at D6 Z5 Z4 ⊢
                          generalize w5.heap.size = g5 at Z5 L5 YY ⊢
                          have NN : Hid (g4 ≠ g5) := Lib.hid (show g4 ≠ g5 by have := YY.out; omega)
                          refine wpAnyH_all (rs := [15]) (by kernel_rfl) (by simp) ?_
                          have T0 := Lib.hid (SplTwo.mk D6.out Z4.out Z5.out NN.out L4.out L5.out)
                          have gg := row_of _ _ _ T0.out.rq
                          refine held_store rfl rfl 58 _ _ rfl g4 _ rfl rfl 58 _ gg (by kernel_rfl) (by kernel_rfl) (by kernel_rfl) ⟨row_of _ _ _ (T0.out.set4 q).s.z, (T0.out.set4 q).s.c⟩ ?_ ?_
                          · have T1 := Lib.hid (T0.out.set4 q)
                            generalize w6.setRow g4 (nat20 q) = wy at T1 ⊢
                            clear gg
                            refine wpAnyH_all (rs := [16]) (by kernel_rfl) (by simp) ?_
                            have gg := row_of _ _ _ T1.out.rr
                            refine held_store rfl rfl 58 _ _ rfl g5 _ rfl rfl 58 _ gg (by kernel_rfl) (by kernel_rfl) (by kernel_rfl) ⟨row_of _ _ _ (T1.out.set5 r).s.z, (T1.out.set5 r).s.c⟩ ?_ ?_
                            · have T2 := Lib.hid (T1.out.set5 r)
                              generalize wy.setRow g5 (nat20 r) = wz at T2 ⊢
                              clear gg
                              refine wpAnyH_done (by kernel_rfl) ?_ _
                              go_wp2_with fail
                              go_meet
                              exact ⟨g4, g5, q, r, rfl, rfl, T2, HQR⟩
                            · exact AllHeld.nil
                          · exact AllHeld.nil
                        · exact AllHeld.nil
                      · refine AllHeld.cons rfl (fun K hK => ?_) ?_
                        · go_simp
                          rw [zeros20]
                          have YY := Lib.hid Z4.out.lt
                          have D5 := Lib.hid (D4.out.keep ((Below.refl _ _).alloc (Nat.le_refl _) (.cells (nat20 fun _ => 0) 58)))
                          have Z4 := Lib.hid (Z4.out.alloc (.cells (nat20 fun _ => 0) 58))
                          have Z5 := Lib.hid (row_new w4 fun _ => 0)
                          have L5 := Lib.hid D4.out.bl.size
                          refine hK _ _ ⟨row_of _ _ _ D5.out.z, D5.out.c⟩ ?_
                          clear hK K
                          generalize w4.alloc (.cells (nat20 fun _ => 0) 58) = w5 at D5 Z5 Z4 ⊢
                          generalize w4.heap.size = g5 at Z5 L5 YY ⊢
                          have NN : Hid (g4 ≠ g5) := Lib.hid (show g4 ≠ g5 by have := YY.out; omega)
                          refine wpAnyH_all (rs := [9]) (by kernel_rfl) (by simp) ?_
                          refine AllHeld.cons rfl (fun K hK => ?_) ?_
                          · go_simp
                            refine (OV.out _).mono ?_
                            rintro e w6 ⟨q, r, rfl, hqr, hb6⟩
                            have HQR := Lib.hid hqr
                            clear hqr
                            have D6 := Lib.hid (D5.out.keep hb6)
                            have Z4 := Lib.hid (row_kept Z4.out hb6)
                            have Z5 := Lib.hid (row_kept Z5.out hb6)
                            refine hK _ _ ⟨row_of _ _ _ D6.out.z, D6.out.c⟩ ?_
                            clear hK K hb6
                            refine wpAnyH_take (i := 10) (v := .tuple #[.agg (nat20 q), .agg (nat20 r)]) rfl (by kernel_rfl) (by kernel_rfl) (by kernel_rfl) (fun _ _ _ h => h) (Or.inl ⟨by rfl, fun _ _ => by go_simp⟩) ⟨row_of _ _ _ D6.out.z, D6.out.c⟩ ?_
                            refine wpAnyH_take (i := 11) (v := .agg (nat20 q)) rfl (by kernel_rfl) (by kernel_rfl) (by kernel_rfl) (fun _ _ _ h => h) (Or.inl ⟨by rfl, fun _ _ => by go_simp⟩) ⟨row_of _ _ _ D6.out.z, D6.out.c⟩ ?_
                            refine wpAnyH_take (i := 12) (v := .agg (nat20 r)) rfl (by kernel_rfl) (by kernel_rfl) (by kernel_rfl) (fun _ _ _ h => h) (Or.inl ⟨by rfl, fun _ _ => by go_simp⟩) ⟨row_of _ _ _ D6.out.z, D6.out.c⟩ ?_
                            refine wpAnyH_all (rs := [15]) (by kernel_rfl) (by simp) ?_
                            have T0 := Lib.hid (SplTwo.mk D6.out Z4.out Z5.out NN.out L4.out L5.out)
                            have gg := row_of _ _ _ T0.out.rq
                            refine held_store rfl rfl 58 _ _ rfl g4 _ rfl rfl 58 _ gg (by kernel_rfl) (by kernel_rfl) (by kernel_rfl) ⟨row_of _ _ _ (T0.out.set4 q).s.z, (T0.out.set4 q).s.c⟩ ?_ ?_
                            · have T1 := Lib.hid (T0.out.set4 q)
                              generalize w6.setRow g4 (nat20 q) = wy at T1 ⊢
                              clear gg
                              refine wpAnyH_all (rs := [16]) (by kernel_rfl) (by simp) ?_
                              have gg := row_of _ _ _ T1.out.rr
                              refine held_store rfl rfl 58 _ _ rfl g5 _ rfl rfl 58 _ gg (by kernel_rfl) (by kernel_rfl) (by kernel_rfl) ⟨row_of _ _ _ (T1.out.set5 r).s.z, (T1.out.set5 r).s.c⟩ ?_ ?_
                              · have T2 := Lib.hid (T1.out.set5 r)
                                generalize wy.setRow g5 (nat20 r) = wz at T2 ⊢
                                clear gg
                                refine wpAnyH_done (by kernel_rfl) ?_ _
                                go_wp2_with fail
                                go_meet
                                exact ⟨g4, g5, q, r, rfl, rfl, T2, HQR⟩
                              · exact AllHeld.nil
                            · exact AllHeld.nil
                          · exact AllHeld.nil
                        · exact AllHeld.nil
                    · refine AllHeld.cons rfl (fun K hK => ?_) ?_
                      · go_simp
                        rw [zeros20]
                        have D4 := Lib.hid (D3.out.keep ((Below.refl _ _).alloc (Nat.le_refl _) (.cells (nat20 fun _ => 0) 58)))
                        have Z5 := Lib.hid (row_new w3 fun _ => 0)
                        have L5 := Lib.hid D3.out.bl.size
                        refine hK _ _ ⟨row_of _ _ _ D4.out.z, D4.out.c⟩ ?_
                        clear hK K
                        generalize w3.alloc (.cells (nat20 fun _ => 0) 58) = w4 at D4 Z5 ⊢
                        generalize w3.heap.size = g5 at Z5 L5 ⊢
                        refine wpAnyH_all (rs := [9, 13]) (by kernel_rfl) (by simp) ?_
                        refine AllHeld.cons rfl (fun K hK => ?_) ?_
                        · go_simp
                          refine (OV.out _).mono ?_
                          rintro e w5 ⟨q, r, rfl, hqr, hb5⟩
                          have HQR := Lib.hid hqr
                          clear hqr
                          have D5 := Lib.hid (D4.out.keep hb5)
                          have Z5 := Lib.hid (row_kept Z5.out hb5)
                          refine hK _ _ ⟨row_of _ _ _ D5.out.z, D5.out.c⟩ ?_
                          clear hK K hb5
                          refine wpAnyH_take (i := 10) (v := .tuple #[.agg (nat20 q), .agg (nat20 r)]) rfl (by kernel_rfl) (by kernel_rfl) (by kernel_rfl) (fun _ _ _ h => h) (Or.inl ⟨by rfl, fun _ _ => by go_simp⟩) ⟨row_of _ _ _ D5.out.z, D5.out.c⟩ ?_
                          refine wpAnyH_take (i := 11) (v := .agg (nat20 q)) rfl (by kernel_rfl) (by kernel_rfl) (by kernel_rfl) (fun _ _ _ h => h) (Or.inl ⟨by rfl, fun _ _ => by go_simp⟩) ⟨row_of _ _ _ D5.out.z, D5.out.c⟩ ?_
                          refine wpAnyH_take (i := 12) (v := .agg (nat20 r)) rfl (by kernel_rfl) (by kernel_rfl) (by kernel_rfl) (fun _ _ _ h => h) (Or.inl ⟨by rfl, fun _ _ => by go_simp⟩) ⟨row_of _ _ _ D5.out.z, D5.out.c⟩ ?_
                          refine wpAnyH_all (rs := [13]) (by kernel_rfl) (by simp) ?_
                          refine AllHeld.cons rfl (fun K hK => ?_) ?_
                          · go_simp
                            rw [zeros20]
                            have YY := Lib.hid Z5.out.lt
                            have D6 := Lib.hid (D5.out.keep ((Below.refl _ _).alloc (Nat.le_refl _) (.cells (nat20 fun _ => 0) 58)))
                            have Z5 := Lib.hid (Z5.out.alloc (.cells (nat20 fun _ => 0) 58))
                            have Z4 := Lib.hid (row_new w5 fun _ => 0)
                            have L4 := Lib.hid D5.out.bl.size
                            refine hK _ _ ⟨row_of _ _ _ D6.out.z, D6.out.c⟩ ?_
                            clear hK K
                            generalize w5.alloc (.cells (nat20 fun _ => 0) 58) = w6 at D6 Z4 Z5 ⊢
                            generalize w5.heap.size = g4 at Z4 L4 YY ⊢
                            have NN : Hid (g4 ≠ g5) := Lib.hid (show g4 ≠ g5 by have := YY.out; omega)
                            refine wpAnyH_all (rs := [15]) (by kernel_rfl) (by simp) ?_
                            have T0 := Lib.hid (SplTwo.mk D6.out Z4.out Z5.out NN.out L4.out L5.out)
                            have gg := row_of _ _ _ T0.out.rq
                            refine held_store rfl rfl 58 _ _ rfl g4 _ rfl rfl 58 _ gg (by kernel_rfl) (by kernel_rfl) (by kernel_rfl) ⟨row_of _ _ _ (T0.out.set4 q).s.z, (T0.out.set4 q).s.c⟩ ?_ ?_
                            · have T1 := Lib.hid (T0.out.set4 q)
                              generalize w6.setRow g4 (nat20 q) = wy at T1 ⊢
                              clear gg
                              refine wpAnyH_all (rs := [16]) (by kernel_rfl) (by simp) ?_
                              have gg := row_of _ _ _ T1.out.rr
                              refine held_store rfl rfl 58 _ _ rfl g5 _ rfl rfl 58 _ gg (by kernel_rfl) (by kernel_rfl) (by kernel_rfl) ⟨row_of _ _ _ (T1.out.set5 r).s.z, (T1.out.set5 r).s.c⟩ ?_ ?_
                              · have T2 := Lib.hid (T1.out.set5 r)
                                generalize wy.setRow g5 (nat20 r) = wz at T2 ⊢
                                clear gg
                                refine wpAnyH_done (by kernel_rfl) ?_ _
                                go_wp2_with fail
                                go_meet
                                exact ⟨g4, g5, q, r, rfl, rfl, T2, HQR⟩
                              · exact AllHeld.nil
                            · exact AllHeld.nil
                          · exact AllHeld.nil
                        · refine AllHeld.cons rfl (fun K hK => ?_) ?_
                          · go_simp
                            rw [zeros20]
                            have YY := Lib.hid Z5.out.lt
                            have D5 := Lib.hid (D4.out.keep ((Below.refl _ _).alloc (Nat.le_refl _) (.cells (nat20 fun _ => 0) 58)))
                            have Z5 := Lib.hid (Z5.out.alloc (.cells (nat20 fun _ => 0) 58))
                            have Z4 := Lib.hid (row_new w4 fun _ => 0)
                            have L4 := Lib.hid D4.out.bl.size
                            refine hK _ _ ⟨row_of _ _ _ D5.out.z, D5.out.c⟩ ?_
                            clear hK K
                            generalize w4.alloc (.cells (nat20 fun _ => 0) 58) = w5 at D5 Z4 Z5 ⊢
                            generalize w4.heap.size = g4 at Z4 L4 YY ⊢
                            have NN : Hid (g4 ≠ g5) := Lib.hid (show g4 ≠ g5 by have := YY.out; omega)
                            refine wpAnyH_all (rs := [9]) (by kernel_rfl) (by simp) ?_
                            refine AllHeld.cons rfl (fun K hK => ?_) ?_
                            · go_simp
                              refine (OV.out _).mono ?_
                              rintro e w6 ⟨q, r, rfl, hqr, hb6⟩
                              have HQR := Lib.hid hqr
                              clear hqr
                              have D6 := Lib.hid (D5.out.keep hb6)
                              have Z4 := Lib.hid (row_kept Z4.out hb6)
                              have Z5 := Lib.hid (row_kept Z5.out hb6)
                              refine hK _ _ ⟨row_of _ _ _ D6.out.z, D6.out.c⟩ ?_
                              clear hK K hb6
                              refine wpAnyH_take (i := 10) (v := .tuple #[.agg (nat20 q), .agg (nat20 r)]) rfl (by kernel_rfl) (by kernel_rfl) (by kernel_rfl) (fun _ _ _ h => h) (Or.inl ⟨by rfl, fun _ _ => by go_simp⟩) ⟨row_of _ _ _ D6.out.z, D6.out.c⟩ ?_
                              refine wpAnyH_take (i := 11) (v := .agg (nat20 q)) rfl (by kernel_rfl) (by kernel_rfl) (by kernel_rfl) (fun _ _ _ h => h) (Or.inl ⟨by rfl, fun _ _ => by go_simp⟩) ⟨row_of _ _ _ D6.out.z, D6.out.c⟩ ?_
                              refine wpAnyH_take (i := 12) (v := .agg (nat20 r)) rfl (by kernel_rfl) (by kernel_rfl) (by kernel_rfl) (fun _ _ _ h => h) (Or.inl ⟨by rfl, fun _ _ => by go_simp⟩) ⟨row_of _ _ _ D6.out.z, D6.out.c⟩ ?_
                              refine wpAnyH_all (rs := [15]) (by kernel_rfl) (by simp) ?_
                              have T0 := Lib.hid (SplTwo.mk D6.out Z4.out Z5.out NN.out L4.out L5.out)
                              have gg := row_of _ _ _ T0.out.rq
                              refine held_store rfl rfl 58 _ _ rfl g4 _ rfl rfl 58 _ gg (by kernel_rfl) (by kernel_rfl) (by kernel_rfl) ⟨row_of _ _ _ (T0.out.set4 q).s.z, (T0.out.set4 q).s.c⟩ ?_ ?_
                              · have T1 := Lib.hid (T0.out.set4 q)
                                generalize w6.setRow g4 (nat20 q) = wy at T1 ⊢
                                clear gg
                                refine wpAnyH_all (rs := [16]) (by kernel_rfl) (by simp) ?_
                                have gg := row_of _ _ _ T1.out.rr
                                refine held_store rfl rfl 58 _ _ rfl g5 _ rfl rfl 58 _ gg (by kernel_rfl) (by kernel_rfl) (by kernel_rfl) ⟨row_of _ _ _ (T1.out.set5 r).s.z, (T1.out.set5 r).s.c⟩ ?_ ?_
                                · have T2 := Lib.hid (T1.out.set5 r)
                                  generalize wy.setRow g5 (nat20 r) = wz at T2 ⊢
                                  clear gg
                                  refine wpAnyH_done (by kernel_rfl) ?_ _
                                  go_wp2_with fail
                                  go_meet
                                  exact ⟨g4, g5, q, r, rfl, rfl, T2, HQR⟩
                                · exact AllHeld.nil
                              · exact AllHeld.nil
                            · exact AllHeld.nil
                          · exact AllHeld.nil
                      · exact AllHeld.nil
                · refine AllHeld.cons rfl (fun K hK => ?_) ?_
                  · go_simp
                    rw [zeros20]
                    have D3 := Lib.hid (D2.out.keep ((Below.refl _ _).alloc (Nat.le_refl _) (.cells (nat20 fun _ => 0) 58)))
                    have Z4 := Lib.hid (row_new w2 fun _ => 0)
                    have L4 := Lib.hid D2.out.bl.size
                    refine hK _ _ ⟨row_of _ _ _ D3.out.z, D3.out.c⟩ ?_
                    clear hK K
                    generalize w2.alloc (.cells (nat20 fun _ => 0) 58) = w3 at D3 Z4 ⊢
                    generalize w2.heap.size = g4 at Z4 L4 ⊢
                    refine wpAnyH_all (rs := [8, 14]) (by kernel_rfl) (by simp) ?_
                    refine AllHeld.cons rfl (fun K hK => ?_) ?_
                    · go_simp
                      refine (SS.out _).mono ?_
                      rintro e w4 ⟨rfl, hb4⟩
                      have D4 := Lib.hid (D3.out.keep hb4)
                      have Z4 := Lib.hid (row_kept Z4.out hb4)
                      refine hK _ _ ⟨row_of _ _ _ D4.out.z, D4.out.c⟩ ?_
                      clear hK K hb4
                      refine wpAnyH_all (rs := [9, 14]) (by kernel_rfl) (by simp) ?_
                      refine AllHeld.cons rfl (fun K hK => ?_) ?_
                      · go_simp
                        refine (OV.out _).mono ?_
                        rintro e w5 ⟨q, r, rfl, hqr, hb5⟩
                        have HQR := Lib.hid hqr
                        clear hqr
                        have D5 := Lib.hid (D4.out.keep hb5)
                        have Z4 := Lib.hid (row_kept Z4.out hb5)
                        refine hK _ _ ⟨row_of _ _ _ D5.out.z, D5.out.c⟩ ?_
                        clear hK K hb5
                        refine wpAnyH_take (i := 10) (v := .tuple #[.agg (nat20 q), .agg (nat20 r)]) rfl (by kernel_rfl) (by kernel_rfl) (by kernel_rfl) (fun _ _ _ h => h) (Or.inl ⟨by rfl, fun _ _ => by go_simp⟩) ⟨row_of _ _ _ D5.out.z, D5.out.c⟩ ?_
                        refine wpAnyH_take (i := 11) (v := .agg (nat20 q)) rfl (by kernel_rfl) (by kernel_rfl) (by kernel_rfl) (fun _ _ _ h => h) (Or.inl ⟨by rfl, fun _ _ => by go_simp⟩) ⟨row_of _ _ _ D5.out.z, D5.out.c⟩ ?_
                        refine wpAnyH_take (i := 12) (v := .agg (nat20 r)) rfl (by kernel_rfl) (by kernel_rfl) (by kernel_rfl) (fun _ _ _ h => h) (Or.inl ⟨by rfl, fun _ _ => by go_simp⟩) ⟨row_of _ _ _ D5.out.z, D5.out.c⟩ ?_
                        refine wpAnyH_all (rs := [14]) (by kernel_rfl) (by simp) ?_
                        refine AllHeld.cons rfl (fun K hK => ?_) ?_
                        · go_simp
                          rw [zeros20]
                          have YY := Lib.hid Z4.out.lt
                          have D6 := Lib.hid (D5.out.keep ((Below.refl _ _).alloc (Nat.le_refl _) (.cells (nat20 fun _ => 0) 58)))
                          have Z4 := Lib.hid (Z4.out.alloc (.cells (nat20 fun _ => 0) 58))
                          have Z5 := Lib.hid (row_new w5 fun _ => 0)
                          have L5 := Lib.hid D5.out.bl.size
                          refine hK _ _ ⟨row_of _ _ _ D6.out.z, D6.out.c⟩ ?_
                          clear hK K
                          generalize w5.alloc (.cells (nat20 fun _ => 0) 58) = w6 at D6 Z5 Z4 ⊢
                          generalize w5.heap.size = g5 at Z5 L5 YY ⊢
                          have NN : Hid (g4 ≠ g5) := Lib.hid (show g4 ≠ g5 by have := YY.out; omega)
                          refine wpAnyH_all (rs := [15]) (by kernel_rfl) (by simp) ?_
                          have T0 := Lib.hid (SplTwo.mk D6.out Z4.out Z5.out NN.out L4.out L5.out)
                          have gg := row_of _ _ _ T0.out.rq
                          refine held_store rfl rfl 58 _ _ rfl g4 _ rfl rfl 58 _ gg (by kernel_rfl) (by kernel_rfl) (by kernel_rfl) ⟨row_of _ _ _ (T0.out.set4 q).s.z, (T0.out.set4 q).s.c⟩ ?_ ?_
                          · have T1 := Lib.hid (T0.out.set4 q)
                            generalize w6.setRow g4 (nat20 q) = wy at T1 ⊢
                            clear gg
                            refine wpAnyH_all (rs := [16]) (by kernel_rfl) (by simp) ?_
                            have gg := row_of _ _ _ T1.out.rr
                            refine held_store rfl rfl 58 _ _ rfl g5 _ rfl rfl 58 _ gg (by kernel_rfl) (by kernel_rfl) (by kernel_rfl) ⟨row_of _ _ _ (T1.out.set5 r).s.z, (T1.out.set5 r).s.c⟩ ?_ ?_
                            · have T2 := Lib.hid (T1.out.set5 r)
                              generalize wy.setRow g5 (nat20 r) = wz at T2 ⊢
                              clear gg
                              refine wpAnyH_done (by kernel_rfl) ?_ _
                              go_wp2_with fail
                              go_meet
                              exact ⟨g4, g5, q, r, rfl, rfl, T2, HQR⟩
                            · exact AllHeld.nil
                          · exact AllHeld.nil
                        · exact AllHeld.nil
                      · refine AllHeld.cons rfl (fun K hK => ?_) ?_
                        · go_simp
                          rw [zeros20]
                          have YY := Lib.hid Z4.out.lt
                          have D5 := Lib.hid (D4.out.keep ((Below.refl _ _).alloc (Nat.le_refl _) (.cells (nat20 fun _ => 0) 58)))
                          have Z4 := Lib.hid (Z4.out.alloc (.cells (nat20 fun _ => 0) 58))
                          have Z5 := Lib.hid (row_new w4 fun _ => 0)
                          have L5 := Lib.hid D4.out.bl.size
                          refine hK _ _ ⟨row_of _ _ _ D5.out.z, D5.out.c⟩ ?_
                          clear hK K
                          generalize w4.alloc (.cells (nat20 fun _ => 0) 58) = w5 at D5 Z5 Z4 ⊢
                          generalize w4.heap.size = g5 at Z5 L5 YY ⊢
                          have NN : Hid (g4 ≠ g5) := Lib.hid (show g4 ≠ g5 by have := YY.out; omega)
                          refine wpAnyH_all (rs := [9]) (by kernel_rfl) (by simp) ?_
                          refine AllHeld.cons rfl (fun K hK => ?_) ?_
                          · go_simp
                            refine (OV.out _).mono ?_
                            rintro e w6 ⟨q, r, rfl, hqr, hb6⟩
                            have HQR := Lib.hid hqr
                            clear hqr
                            have D6 := Lib.hid (D5.out.keep hb6)
                            have Z4 := Lib.hid (row_kept Z4.out hb6)
                            have Z5 := Lib.hid (row_kept Z5.out hb6)
                            refine hK _ _ ⟨row_of _ _ _ D6.out.z, D6.out.c⟩ ?_
                            clear hK K hb6
                            refine wpAnyH_take (i := 10) (v := .tuple #[.agg (nat20 q), .agg (nat20 r)]) rfl (by kernel_rfl) (by kernel_rfl) (by kernel_rfl) (fun _ _ _ h => h) (Or.inl ⟨by rfl, fun _ _ => by go_simp⟩) ⟨row_of _ _ _ D6.out.z, D6.out.c⟩ ?_
                            refine wpAnyH_take (i := 11) (v := .agg (nat20 q)) rfl (by kernel_rfl) (by kernel_rfl) (by kernel_rfl) (fun _ _ _ h => h) (Or.inl ⟨by rfl, fun _ _ => by go_simp⟩) ⟨row_of _ _ _ D6.out.z, D6.out.c⟩ ?_
                            refine wpAnyH_take (i := 12) (v := .agg (nat20 r)) rfl (by kernel_rfl) (by kernel_rfl) (by kernel_rfl) (fun _ _ _ h => h) (Or.inl ⟨by rfl, fun _ _ => by go_simp⟩) ⟨row_of _ _ _ D6.out.z, D6.out.c⟩ ?_
                            refine wpAnyH_all (rs := [15]) (by kernel_rfl) (by simp) ?_
                            have T0 := Lib.hid (SplTwo.mk D6.out Z4.out Z5.out NN.out L4.out L5.out)
                            have gg := row_of _ _ _ T0.out.rq
                            refine held_store rfl rfl 58 _ _ rfl g4 _ rfl rfl 58 _ gg (by kernel_rfl) (by kernel_rfl) (by kernel_rfl) ⟨row_of _ _ _ (T0.out.set4 q).s.z, (T0.out.set4 q).s.c⟩ ?_ ?_
                            · have T1 := Lib.hid (T0.out.set4 q)
                              generalize w6.setRow g4 (nat20 q) = wy at T1 ⊢
                              clear gg
                              refine wpAnyH_all (rs := [16]) (by kernel_rfl) (by simp) ?_
                              have gg := row_of _ _ _ T1.out.rr
                              refine held_store rfl rfl 58 _ _ rfl g5 _ rfl rfl 58 _ gg (by kernel_rfl) (by kernel_rfl) (by kernel_rfl) ⟨row_of _ _ _ (T1.out.set5 r).s.z, (T1.out.set5 r).s.c⟩ ?_ ?_
                              · have T2 := Lib.hid (T1.out.set5 r)
                                generalize wy.setRow g5 (nat20 r) = wz at T2 ⊢
                                clear gg
                                refine wpAnyH_done (by kernel_rfl) ?_ _
                                go_wp2_with fail
                                go_meet
                                exact ⟨g4, g5, q, r, rfl, rfl, T2, HQR⟩
                              · exact AllHeld.nil
                            · exact AllHeld.nil
                          · exact AllHeld.nil
                        · exact AllHeld.nil
                    · refine AllHeld.cons rfl (fun K hK => ?_) ?_
                      · go_simp
                        rw [zeros20]
                        have YY := Lib.hid Z4.out.lt
                        have D4 := Lib.hid (D3.out.keep ((Below.refl _ _).alloc (Nat.le_refl _) (.cells (nat20 fun _ => 0) 58)))
                        have Z4 := Lib.hid (Z4.out.alloc (.cells (nat20 fun _ => 0) 58))
                        have Z5 := Lib.hid (row_new w3 fun _ => 0)
                        have L5 := Lib.hid D3.out.bl.size
                        refine hK _ _ ⟨row_of _ _ _ D4.out.z, D4.out.c⟩ ?_
                        clear hK K
                        generalize w3.alloc (.cells (nat20 fun _ => 0) 58) = w4 at D4 Z5 Z4 ⊢
                        generalize w3.heap.size = g5 at Z5 L5 YY ⊢
                        have NN : Hid (g4 ≠ g5) := Lib.hid (show g4 ≠ g5 by have := YY.out; omega)
                        refine wpAnyH_all (rs := [8]) (by kernel_rfl) (by simp) ?_
                        refine AllHeld.cons rfl (fun K hK => ?_) ?_
                        · go_simp
                          refine (SS.out _).mono ?_
                          rintro e w5 ⟨rfl, hb5⟩
                          have D5 := Lib.hid (D4.out.keep hb5)
                          have Z4 := Lib.hid (row_kept Z4.out hb5)
                          have Z5 := Lib.hid (row_kept Z5.out hb5)
                          refine hK _ _ ⟨row_of _ _ _ D5.out.z, D5.out.c⟩ ?_
                          clear hK K hb5
                          refine wpAnyH_all (rs := [9]) (by kernel_rfl) (by simp) ?_
                          refine AllHeld.cons rfl (fun K hK => ?_) ?_
                          · go_simp
                            refine (OV.out _).mono ?_
                            rintro e w6 ⟨q, r, rfl, hqr, hb6⟩
                            have HQR := Lib.hid hqr
                            clear hqr
                            have D6 := Lib.hid (D5.out.keep hb6)
                            have Z4 := Lib.hid (row_kept Z4.out hb6)
                            have Z5 := Lib.hid (row_kept Z5.out hb6)
                            refine hK _ _ ⟨row_of _ _ _ D6.out.z, D6.out.c⟩ ?_
                            clear hK K hb6
                            refine wpAnyH_take (i := 10) (v := .tuple #[.agg (nat20 q), .agg (nat20 r)]) rfl (by kernel_rfl) (by kernel_rfl) (by kernel_rfl) (fun _ _ _ h => h) (Or.inl ⟨by rfl, fun _ _ => by go_simp⟩) ⟨row_of _ _ _ D6.out.z, D6.out.c⟩ ?_
                            refine wpAnyH_take (i := 11) (v := .agg (nat20 q)) rfl (by kernel_rfl) (by kernel_rfl) (by kernel_rfl) (fun _ _ _ h => h) (Or.inl ⟨by rfl, fun _ _ => by go_simp⟩) ⟨row_of _ _ _ D6.out.z, D6.out.c⟩ ?_
                            refine wpAnyH_take (i := 12) (v := .agg (nat20 r)) rfl (by kernel_rfl) (by kernel_rfl) (by kernel_rfl) (fun _ _ _ h => h) (Or.inl ⟨by rfl, fun _ _ => by go_simp⟩) ⟨row_of _ _ _ D6.out.z, D6.out.c⟩ ?_
                            refine wpAnyH_all (rs := [15]) (by kernel_rfl) (by simp) ?_
                            have T0 := Lib.hid (SplTwo.mk D6.out Z4.out Z5.out NN.out L4.out L5.out)
                            have gg := row_of _ _ _ T0.out.rq
                            refine held_store rfl rfl 58 _ _ rfl g4 _ rfl rfl 58 _ gg (by kernel_rfl) (by kernel_rfl) (by kernel_rfl) ⟨row_of _ _ _ (T0.out.set4 q).s.z, (T0.out.set4 q).s.c⟩ ?_ ?_
                            · have T1 := Lib.hid (T0.out.set4 q)
                              generalize w6.setRow g4 (nat20 q) = wy at T1 ⊢
                              clear gg
                              refine wpAnyH_all (rs := [16]) (by kernel_rfl) (by simp) ?_
                              have gg := row_of _ _ _ T1.out.rr
                              refine held_store rfl rfl 58 _ _ rfl g5 _ rfl rfl 58 _ gg (by kernel_rfl) (by kernel_rfl) (by kernel_rfl) ⟨row_of _ _ _ (T1.out.set5 r).s.z, (T1.out.set5 r).s.c⟩ ?_ ?_
                              · have T2 := Lib.hid (T1.out.set5 r)
                                generalize wy.setRow g5 (nat20 r) = wz at T2 ⊢
                                clear gg
                                refine wpAnyH_done (by kernel_rfl) ?_ _
                                go_wp2_with fail
                                go_meet
                                exact ⟨g4, g5, q, r, rfl, rfl, T2, HQR⟩
                              · exact AllHeld.nil
                            · exact AllHeld.nil
                          · exact AllHeld.nil
                        · exact AllHeld.nil
                      · exact AllHeld.nil
                  · refine AllHeld.cons rfl (fun K hK => ?_) ?_
                    · go_simp
                      rw [zeros20]
                      have D3 := Lib.hid (D2.out.keep ((Below.refl _ _).alloc (Nat.le_refl _) (.cells (nat20 fun _ => 0) 58)))
                      have Z5 := Lib.hid (row_new w2 fun _ => 0)
                      have L5 := Lib.hid D2.out.bl.size
                      refine hK _ _ ⟨row_of _ _ _ D3.out.z, D3.out.c⟩ ?_
                      clear hK K
                      generalize w2.alloc (.cells (nat20 fun _ => 0) 58) = w3 at D3 Z5 ⊢
                      generalize w2.heap.size = g5 at Z5 L5 ⊢
                      refine wpAnyH_all (rs := [8, 13]) (by kernel_rfl) (by simp) ?_
                      refine AllHeld.cons rfl (fun K hK => ?_) ?_
                      · go_simp
                        refine (SS.out _).mono ?_
                        rintro e w4 ⟨rfl, hb4⟩
                        have D4 := Lib.hid (D3.out.keep hb4)
                        have Z5 := Lib.hid (row_kept Z5.out hb4)
                        refine hK _ _ ⟨row_of _ _ _ D4.out.z, D4.out.c⟩ ?_
                        clear hK K hb4
                        refine wpAnyH_all (rs := [9, 13]) (by kernel_rfl) (by simp) ?_
                        refine AllHeld.cons rfl (fun K hK => ?_) ?_
                        · go_simp
                          refine (OV.out _).mono ?_
                          rintro e w5 ⟨q, r, rfl, hqr, hb5⟩
                          have HQR := Lib.hid hqr
                          clear hqr
                          have D5 := Lib.hid (D4.out.keep hb5)
                          have Z5 := Lib.hid (row_kept Z5.out hb5)
                          refine hK _ _ ⟨row_of _ _ _ D5.out.z, D5.out.c⟩ ?_
                          clear hK K hb5
                          refine wpAnyH_take (i := 10) (v := .tuple #[.agg (nat20 q), .agg (nat20 r)]) rfl (by kernel_rfl) (by kernel_rfl) (by kernel_rfl) (fun _ _ _ h => h) (Or.inl ⟨by rfl, fun _ _ => by go_simp⟩) ⟨row_of _ _ _ D5.out.z, D5.out.c⟩ ?_
                          refine wpAnyH_take (i := 11) (v := .agg (nat20 q)) rfl (by kernel_rfl) (by kernel_rfl) (by kernel_rfl) (fun _ _ _ h => h) (Or.inl ⟨by rfl, fun _ _ => by go_simp⟩) ⟨row_of _ _ _ D5.out.z, D5.out.c⟩ ?_
                          refine wpAnyH_take (i := 12) (v := .agg (nat20 r)) rfl (by kernel_rfl) (by kernel_rfl) (by kernel_rfl) (fun _ _ _ h => h) (Or.inl ⟨by rfl, fun _ _ => by go_simp⟩) ⟨row_of _ _ _ D5.out.z, D5.out.c⟩ ?_
                          refine wpAnyH_all (rs := [13]) (by kernel_rfl) (by simp) ?_
                          refine AllHeld.cons rfl (fun K hK => ?_) ?_
                          · go_simp
                            rw [zeros20]
                            have YY := Lib.hid Z5.out.lt
                            have D6 := Lib.hid (D5.out.keep ((Below.refl _ _).alloc (Nat.le_refl _) (.cells (nat20 fun _ => 0) 58)))
                            have Z5 := Lib.hid (Z5.out.alloc (.cells (nat20 fun _ => 0) 58))
                            have Z4 := Lib.hid (row_new w5 fun _ => 0)
                            have L4 := Lib.hid D5.out.bl.size
                            refine hK _ _ ⟨row_of _ _ _ D6.out.z, D6.out.c⟩ ?_
                            clear hK K
                            generalize w5.alloc (.cells (nat20 fun _ => 0) 58) = w6 at D6 Z4 Z5 ⊢
                            generalize w5.heap.size = g4 at Z4 L4 YY ⊢
                            have NN : Hid (g4 ≠ g5) := Lib.hid (show g4 ≠ g5 by have := YY.out; omega)
                            refine wpAnyH_all (rs := [15]) (by kernel_rfl) (by simp) ?_
                            have T0 := Lib.hid (SplTwo.mk D6.out Z4.out Z5.out NN.out L4.out L5.out)
                            have gg := row_of _ _ _ T0.out.rq
                            refine held_store rfl rfl 58 _ _ rfl g4 _ rfl rfl 58 _ gg (by kernel_rfl) (by kernel_rfl) (by kernel_rfl) ⟨row_of _ _ _ (T0.out.set4 q).s.z, (T0.out.set4 q).s.c⟩ ?_ ?_
                            · have T1 := Lib.hid (T0.out.set4 q)
                              generalize w6.setRow g4 (nat20 q) = wy at T1 ⊢
                              clear gg
                              refine wpAnyH_all (rs := [16]) (by kernel_rfl) (by simp) ?_
                              have gg := row_of _ _ _ T1.out.rr
                              refine held_store rfl rfl 58 _ _ rfl g5 _ rfl rfl 58 _ gg (by kernel_rfl) (by kernel_rfl) (by kernel_rfl) ⟨row_of _ _ _ (T1.out.set5 r).s.z, (T1.out.set5 r).s.c⟩ ?_ ?_
                              · have T2 := Lib.hid (T1.out.set5 r)
                                generalize wy.setRow g5 (nat20 r) = wz at T2 ⊢
                                clear gg
                                refine wpAnyH_done (by kernel_rfl) ?_ _
                                go_wp2_with fail
                                go_meet
                                exact ⟨g4, g5, q, r, rfl, rfl, T2, HQR⟩
                              · exact AllHeld.nil
                            · exact AllHeld.nil
                          · exact AllHeld.nil
                        · refine AllHeld.cons rfl (fun K hK => ?_) ?_
                          · go_simp
                            rw [zeros20]
                            have YY := Lib.hid Z5.out.lt
                            have D5 := Lib.hid (D4.out.keep ((Below.refl _ _).alloc (Nat.le_refl _) (.cells (nat20 fun _ => 0) 58)))
                            have Z5 := Lib.hid (Z5.out.alloc (.cells (nat20 fun _ => 0) 58))
                            have Z4 := Lib.hid (row_new w4 fun _ => 0)
                            have L4 := Lib.hid D4.out.bl.size
                            refine hK _ _ ⟨row_of _ _ _ D5.out.z, D5.out.c⟩ ?_
                            clear hK K
                            generalize w4.alloc (.cells (nat20 fun _ => 0) 58) = w5 at D5 Z4 Z5 ⊢
                            generalize w4.heap.size = g4 at Z4 L4 YY ⊢
                            have NN : Hid (g4 ≠ g5) := Lib.hid (show g4 ≠ g5 by have := YY.out; omega)
                            refine wpAnyH_all (rs := [9]) (by kernel_rfl) (by simp) ?_
                            refine AllHeld.cons rfl (fun K hK => ?_) ?_
                            · go_simp
                              refine (OV.out _).mono ?_
                              rintro e w6 ⟨q, r, rfl, hqr, hb6⟩
                              have HQR := Lib.hid hqr
                              clear hqr
                              have D6 := Lib.hid (D5.out.keep hb6)
                              have Z4 := Lib.hid (row_kept Z4.out hb6)
                              have Z5 := Lib.hid (row_kept Z5.out hb6)
                              refine hK _ _ ⟨row_of _ _ _ D6.out.z, D6.out.c⟩ ?_
                              clear hK K hb6
                              refine wpAnyH_take (i := 10) (v := .tuple #[.agg (nat20 q), .agg (nat20 r)]) rfl (by kernel_rfl) (by kernel_rfl) (by kernel_rfl) (fun _ _ _ h => h) (Or.inl ⟨by rfl, fun _ _ => by go_simp⟩) ⟨row_of _ _ _ D6.out.z, D6.out.c⟩ ?_
                              refine wpAnyH_take (i := 11) (v := .agg (nat20 q)) rfl (by kernel_rfl) (by kernel_rfl) (by kernel_rfl) (fun _ _ _ h => h) (Or.inl ⟨by rfl, fun _ _ => by go_simp⟩) ⟨row_of _ _ _ D6.out.z, D6.out.c⟩ ?_
                              refine wpAnyH_take (i := 12) (v := .agg (nat20 r)) rfl (by kernel_rfl) (by kernel_rfl) (by kernel_rfl) (fun _ _ _ h => h) (Or.inl ⟨by rfl, fun _ _ => by go_simp⟩) ⟨row_of _ _ _ D6.out.z, D6.out.c⟩ ?_
                              refine wpAnyH_all (rs := [15]) (by kernel_rfl) (by simp) ?_
                              have T0 := Lib.hid (SplTwo.mk D6.out Z4.out Z5.out NN.out L4.out L5.out)
                              have gg := row_of _ _ _ T0.out.rq
                              refine held_store rfl rfl 58 _ _ rfl g4 _ rfl rfl 58 _ gg (by kernel_rfl) (by kernel_rfl) (by kernel_rfl) ⟨row_of _ _ _ (T0.out.set4 q).s.z, (T0.out.set4 q).s.c⟩ ?_ ?_
                              · have T1 := Lib.hid (T0.out.set4 q)
                                generalize w6.setRow g4 (nat20 q) = wy at T1 ⊢
                                clear gg
                                refine wpAnyH_all (rs := [16]) (by kernel_rfl) (by simp) ?_
                                have gg := row_of _ _ _ T1.out.rr
                                refine held_store rfl rfl 58 _ _ rfl g5 _ rfl rfl 58 _ gg (by kernel_rfl) (by kernel_rfl) (by kernel_rfl) ⟨row_of _ _ _ (T1.out.set5 r).s.z, (T1.out.set5 r).s.c⟩ ?_ ?_
                                · have T2 := Lib.hid (T1.out.set5 r)
                                  generalize wy.setRow g5 (nat20 r) = wz at T2 ⊢
                                  clear gg
                                  refine wpAnyH_done (by kernel_rfl) ?_ _
                                  go_wp2_with fail
                                  go_meet
                                  exact ⟨g4, g5, q, r, rfl, rfl, T2, HQR⟩
                                · exact AllHeld.nil
                              · exact AllHeld.nil
                            · exact AllHeld.nil
                          · exact AllHeld.nil
                      · refine AllHeld.cons rfl (fun K hK => ?_) ?_
                        · go_simp
                          rw [zeros20]
                          have YY := Lib.hid Z5.out.lt
                          have D4 := Lib.hid (D3.out.keep ((Below.refl _ _).alloc (Nat.le_refl _) (.cells (nat20 fun _ => 0) 58)))
                          have Z5 := Lib.hid (Z5.out.alloc (.cells (nat20 fun _ => 0) 58))
                          have Z4 := Lib.hid (row_new w3 fun _ => 0)
                          have L4 := Lib.hid D3.out.bl.size
                          refine hK _ _ ⟨row_of _ _ _ D4.out.z, D4.out.c⟩ ?_
                          clear hK K
                          generalize w3.alloc (.cells (nat20 fun _ => 0) 58) = w4 at D4 Z4 Z5 ⊢
                          generalize w3.heap.size = g4 at Z4 L4 YY ⊢
                          have NN : Hid (g4 ≠ g5) := Lib.hid (show g4 ≠ g5 by have := YY.out; omega)
                          refine wpAnyH_all (rs := [8]) (by kernel_rfl) (by simp) ?_
                          refine AllHeld.cons rfl (fun K hK => ?_) ?_
                          · go_simp
                            refine (SS.out _).mono ?_
                            rintro e w5 ⟨rfl, hb5⟩
                            have D5 := Lib.hid (D4.out.keep hb5)
                            have Z4 := Lib.hid (row_kept Z4.out hb5)
                            have Z5 := Lib.hid (row_kept Z5.out hb5)
                            refine hK _ _ ⟨row_of _ _ _ D5.out.z, D5.out.c⟩ ?_
                            clear hK K hb5
                            refine wpAnyH_all (rs := [9]) (by kernel_rfl) (by simp) ?_
                            refine AllHeld.cons rfl (fun K hK => ?_) ?_
                            · go_simp
                              refine (OV.out _).mono ?_
                              rintro e w6 ⟨q, r, rfl, hqr, hb6⟩
                              have HQR := Lib.hid hqr
                              clear hqr
                              have D6 := Lib.hid (D5.out.keep hb6)
                              have Z4 := Lib.hid (row_kept Z4.out hb6)
                              have Z5 := Lib.hid (row_kept Z5.out hb6)
                              refine hK _ _ ⟨row_of _ _ _ D6.out.z, D6.out.c⟩ ?_
                              clear hK K hb6
                              refine wpAnyH_take (i := 10) (v := .tuple #[.agg (nat20 q), .agg (nat20 r)]) rfl (by kernel_rfl) (by kernel_rfl) (by kernel_rfl) (fun _ _ _ h => h) (Or.inl ⟨by rfl, fun _ _ => by go_simp⟩) ⟨row_of _ _ _ D6.out.z, D6.out.c⟩ ?_
                              refine wpAnyH_take (i := 11) (v := .agg (nat20 q)) rfl (by kernel_rfl) (by kernel_rfl) (by kernel_rfl) (fun _ _ _ h => h) (Or.inl ⟨by rfl, fun _ _ => by go_simp⟩) ⟨row_of _ _ _ D6.out.z, D6.out.c⟩ ?_
                              refine wpAnyH_take (i := 12) (v := .agg (nat20 r)) rfl (by kernel_rfl) (by kernel_rfl) (by kernel_rfl) (fun _ _ _ h => h) (Or.inl ⟨by rfl, fun _ _ => by go_simp⟩) ⟨row_of _ _ _ D6.out.z, D6.out.c⟩ ?_
                              refine wpAnyH_all (rs := [15]) (by kernel_rfl) (by simp) ?_
                              have T0 := Lib.hid (SplTwo.mk D6.out Z4.out Z5.out NN.out L4.out L5.out)
                              have gg := row_of _ _ _ T0.out.rq
                              refine held_store rfl rfl 58 _ _ rfl g4 _ rfl rfl 58 _ gg (by kernel_rfl) (by kernel_rfl) (by kernel_rfl) ⟨row_of _ _ _ (T0.out.set4 q).s.z, (T0.out.set4 q).s.c⟩ ?_ ?_
                              · have T1 := Lib.hid (T0.out.set4 q)
                                generalize w6.setRow g4 (nat20 q) = wy at T1 ⊢
                                clear gg
                                refine wpAnyH_all (rs := [16]) (by kernel_rfl) (by simp) ?_
                                have gg := row_of _ _ _ T1.out.rr
                                refine held_store rfl rfl 58 _ _ rfl g5 _ rfl rfl 58 _ gg (by kernel_rfl) (by kernel_rfl) (by kernel_rfl) ⟨row_of _ _ _ (T1.out.set5 r).s.z, (T1.out.set5 r).s.c⟩ ?_ ?_
                                · have T2 := Lib.hid (T1.out.set5 r)
                                  generalize wy.setRow g5 (nat20 r) = wz at T2 ⊢
                                  clear gg
                                  refine wpAnyH_done (by kernel_rfl) ?_ _
                                  go_wp2_with fail
                                  go_meet
                                  exact ⟨g4, g5, q, r, rfl, rfl, T2, HQR⟩
                                · exact AllHeld.nil
                              · exact AllHeld.nil
                            · exact AllHeld.nil
                          · exact AllHeld.nil
                        · exact AllHeld.nil
                    · exact AllHeld.nil
              · refine AllHeld.cons rfl (fun K hK => ?_) ?_
                · go_simp
                  rw [zeros20]
                  have D2 := Lib.hid (D1.out.keep ((Below.refl _ _).alloc (Nat.le_refl _) (.cells (nat20 fun _ => 0) 58)))
                  have Z4 := Lib.hid (row_new w1 fun _ => 0)
                  have L4 := Lib.hid D1.out.bl.size
                  refine hK _ _ ⟨row_of _ _ _ D2.out.z, D2.out.c⟩ ?_
                  clear hK K
                  generalize w1.alloc (.cells (nat20 fun _ => 0) 58) = w2 at D2 Z4 ⊢
                  generalize w1.heap.size = g4 at Z4 L4 ⊢
                  refine wpAnyH_all (rs := [6, 14]) (by kernel_rfl) (by simp) ?_
                  refine AllHeld.cons rfl (fun K hK => ?_) ?_
                  · go_simp
                    refine (TM.out _).mono ?_
                    rintro e w3 ⟨rfl, hb3⟩
                    have D3 := Lib.hid (D2.out.keep hb3)
                    have Z4 := Lib.hid (row_kept Z4.out hb3)
                    refine hK _ _ ⟨row_of _ _ _ D3.out.z, D3.out.c⟩ ?_
                    clear hK K hb3
                    refine wpAnyH_all (rs := [8, 14]) (by kernel_rfl) (by simp) ?_
                    refine AllHeld.cons rfl (fun K hK => ?_) ?_
                    · go_simp
                      refine (SS.out _).mono ?_
                      rintro e w4 ⟨rfl, hb4⟩
                      have D4 := Lib.hid (D3.out.keep hb4)
                      have Z4 := Lib.hid (row_kept Z4.out hb4)
                      refine hK _ _ ⟨row_of _ _ _ D4.out.z, D4.out.c⟩ ?_
                      clear hK K hb4
                      refine wpAnyH_all (rs := [9, 14]) (by kernel_rfl) (by simp) ?_
                      refine AllHeld.cons rfl (fun K hK => ?_) ?_
                      · go_simp
                        refine (OV.out _).mono ?_
                        rintro e w5 ⟨q, r, rfl, hqr, hb5⟩
                        have HQR := Lib.hid hqr
                        clear hqr
                        have D5 := Lib.hid (D4.out.keep hb5)
                        have Z4 := Lib.hid (row_kept Z4.out hb5)
                        refine hK _ _ ⟨row_of _ _ _ D5.out.z, D5.out.c⟩ ?_
                        clear hK K hb5
                        refine wpAnyH_take (i := 10) (v := .tuple #[.agg (nat20 q), .agg (nat20 r)]) rfl (by kernel_rfl) (by kernel_rfl) (by kernel_rfl) (fun _ _ _ h => h) (Or.inl ⟨by rfl, fun _ _ => by go_simp⟩) ⟨row_of _ _ _ D5.out.z, D5.out.c⟩ ?_
                        refine wpAnyH_take (i := 11) (v := .agg (nat20 q)) rfl (by kernel_rfl) (by kernel_rfl) (by kernel_rfl) (fun _ _ _ h => h) (Or.inl ⟨by rfl, fun _ _ => by go_simp⟩) ⟨row_of _ _ _ D5.out.z, D5.out.c⟩ ?_
                        refine wpAnyH_take (i := 12) (v := .agg (nat20 r)) rfl (by kernel_rfl) (by kernel_rfl) (by kernel_rfl) (fun _ _ _ h => h) (Or.inl ⟨by rfl, fun _ _ => by go_simp⟩) ⟨row_of _ _ _ D5.out.z, D5.out.c⟩ ?_
                        refine wpAnyH_all (rs := [14]) (by kernel_rfl) (by simp) ?_
                        refine AllHeld.cons rfl (fun K hK => ?_) ?_
                        · go_simp
                          rw [zeros20]
                          have YY := Lib.hid Z4.out.lt
                          have D6 := Lib.hid (D5.out.keep ((Below.refl _ _).alloc (Nat.le_refl _) (.cells (nat20 fun _ => 0) 58)))
                          have Z4 := Lib.hid (Z4.out.alloc (.cells (nat20 fun _ => 0) 58))
                          have Z5 := Lib.hid (row_new w5 fun _ => 0)
                          have L5 := Lib.hid D5.out.bl.size
                          refine hK _ _ ⟨row_of _ _ _ D6.out.z, D6.out.c⟩ ?_
                          clear hK K
                          generalize w5.alloc (.cells (nat20 fun _ => 0) 58) = w6 at D6 Z5 Z4 ⊢
                          generalize w5.heap.size = g5 at Z5 L5 YY ⊢
                          have NN : Hid (g4 ≠ g5) := Lib.hid (show g4 ≠ g5 by have := YY.out; omega)
                          refine wpAnyH_all (rs := [15]) (by kernel_rfl) (by simp) ?_
                          have T0 := Lib.hid (SplTwo.mk D6.out Z4.out Z5.out NN.out L4.out L5.out)
                          have gg := row_of _ _ _ T0.out.rq
                          refine held_store rfl rfl 58 _ _ rfl g4 _ rfl rfl 58 _ gg (by kernel_rfl) (by kernel_rfl) (by kernel_rfl) ⟨row_of _ _ _ (T0.out.set4 q).s.z, (T0.out.set4 q).s.c⟩ ?_ ?_
                          · have T1 := Lib.hid (T0.out.set4 q)
                            generalize w6.setRow g4 (nat20 q) = wy at T1 ⊢
                            clear gg
                            refine wpAnyH_all (rs := [16]) (by kernel_rfl) (by simp) ?_
                            have gg := row_of _ _ _ T1.out.rr
                            refine held_store rfl rfl 58 _ _ rfl g5 _ rfl rfl 58 _ gg (by kernel_rfl) (by kernel_rfl) (by kernel_rfl) ⟨row_of _ _ _ (T1.out.set5 r).s.z, (T1.out.set5 r).s.c⟩ ?_ ?_
                            · have T2 := Lib.hid (T1.out.set5 r)
                              generalize wy.setRow g5 (nat20 r) = wz at T2 ⊢
                              clear gg
                              refine wpAnyH_done (by kernel_rfl) ?_ _
                              go_wp2_with fail
                              go_meet
                              exact ⟨g4, g5, q, r, rfl, rfl, T2, HQR⟩
                            · exact AllHeld.nil
                          · exact AllHeld.nil
                        · exact AllHeld.nil
                      · refine AllHeld.cons rfl (fun K hK => ?_) ?_
                        · go_simp
                          rw [zeros20]
                          have YY := Lib.hid Z4.out.lt
                          have D5 := Lib.hid (D4.out.keep ((Below.refl _ _).alloc (Nat.le_refl _) (.cells (nat20 fun _ => 0) 58)))
                          have Z4 := Lib.hid (Z4.out.alloc (.cells (nat20 fun _ => 0) 58))
                          have Z5 := Lib.hid (row_new w4 fun _ => 0)
                          have L5 := Lib.hid D4.out.bl.size
                          refine hK _ _ ⟨row_of _ _ _ D5.out.z, D5.out.c⟩ ?_
                          clear hK K
                          generalize w4.alloc (.cells (nat20 fun _ => 0) 58) = w5 at D5 Z5 Z4 ⊢
                          generalize w4.heap.size = g5 at Z5 L5 YY ⊢
                          have NN : Hid (g4 ≠ g5) := Lib.hid (show g4 ≠ g5 by have := YY.out; omega)
                          refine wpAnyH_all (rs := [9]) (by kernel_rfl) (by simp) ?_
                          refine AllHeld.cons rfl (fun K hK => ?_) ?_
                          · go_simp
                            refine (OV.out _).mono ?_
                            rintro e w6 ⟨q, r, rfl, hqr, hb6⟩
                            have HQR := Lib.hid hqr
                            clear hqr
                            have D6 := Lib.hid (D5.out.keep hb6)
                            have Z4 := Lib.hid (row_kept Z4.out hb6)
                            have Z5 := Lib.hid (row_kept Z5.out hb6)
                            refine hK _ _ ⟨row_of _ _ _ D6.out.z, D6.out.c⟩ ?_
                            clear hK K hb6
                            refine wpAnyH_take (i := 10) (v := .tuple #[.agg (nat20 q), .agg (nat20 r)]) rfl (by kernel_rfl) (by kernel_rfl) (by kernel_rfl) (fun _ _ _ h => h) (Or.inl ⟨by rfl, fun _ _ => by go_simp⟩) ⟨row_of _ _ _ D6.out.z, D6.out.c⟩ ?_
                            refine wpAnyH_take (i := 11) (v := .agg (nat20 q)) rfl (by kernel_rfl) (by kernel_rfl) (by kernel_rfl) (fun _ _ _ h => h) (Or.inl ⟨by rfl, fun _ _ => by go_simp⟩) ⟨row_of _ _ _ D6.out.z, D6.out.c⟩ ?_
                            refine wpAnyH_take (i := 12) (v := .agg (nat20 r)) rfl (by kernel_rfl) (by kernel_rfl) (by kernel_rfl) (fun _ _ _ h => h) (Or.inl ⟨by rfl, fun _ _ => by go_simp⟩) ⟨row_of _ _ _ D6.out.z, D6.out.c⟩ ?_
                            refine wpAnyH_all (rs := [15]) (by kernel_rfl) (by simp) ?_
                            have T0 := Lib.hid (SplTwo.mk D6.out Z4.out Z5.out NN.out L4.out L5.out)
                            have gg := row_of _ _ _ T0.out.rq
                            refine held_store rfl rfl 58 _ _ rfl g4 _ rfl rfl 58 _ gg (by kernel_rfl) (by kernel_rfl) (by kernel_rfl) ⟨row_of _ _ _ (T0.out.set4 q).s.z, (T0.out.set4 q).s.c⟩ ?_ ?_
                            · have T1 := Lib.hid (T0.out.set4 q)
                              generalize w6.setRow g4 (nat20 q) = wy at T1 ⊢
                              clear gg
                              refine wpAnyH_all (rs := [16]) (by kernel_rfl) (by simp) ?_
                              have gg := row_of _ _ _ T1.out.rr
                              refine held_store rfl rfl 58 _ _ rfl g5 _ rfl rfl 58 _ gg (by kernel_rfl) (by kernel_rfl) (by kernel_rfl) ⟨row_of _ _ _ (T1.out.set5 r).s.z, (T1.out.set5 r).s.c⟩ ?_ ?_
                              · have T2 := Lib.hid (T1.out.set5 r)
                                generalize wy.setRow g5 (nat20 r) = wz at T2 ⊢
                                clear gg
                                refine wpAnyH_done (by kernel_rfl) ?_ _
                                go_wp2_with fail
                                go_meet
                                exact ⟨g4, g5, q, r, rfl, rfl, T2, HQR⟩
                              · exact AllHeld.nil
                            · exact AllHeld.nil
                          · exact AllHeld.nil
                        · exact AllHeld.nil
                    · refine AllHeld.cons rfl (fun K hK => ?_) ?_
                      · go_simp
                        rw [zeros20]
                        have YY := Lib.hid Z4.out.lt
                        have D4 := Lib.hid (D3.out.keep ((Below.refl _ _).alloc (Nat.le_refl _) (.cells (nat20 fun _ => 0) 58)))
                        have Z4 := Lib.hid (Z4.out.alloc (.cells (nat20 fun _ => 0) 58))
                        have Z5 := Lib.hid (row_new w3 fun _ => 0)
                        have L5 := Lib.hid D3.out.bl.size
                        refine hK _ _ ⟨row_of _ _ _ D4.out.z, D4.out.c⟩ ?_
                        clear hK K
                        generalize w3.alloc (.cells (nat20 fun _ => 0) 58) = w4 at D4 Z5 Z4 ⊢
                        generalize w3.heap.size = g5 at Z5 L5 YY ⊢
                        have NN : Hid (g4 ≠ g5) := Lib.hid (show g4 ≠ g5 by have := YY.out; omega)
                        refine wpAnyH_all (rs := [8]) (by kernel_rfl) (by simp) ?_
                        refine AllHeld.cons rfl (fun K hK => ?_) ?_
                        · go_simp
                          refine (SS.out _).mono ?_
                          rintro e w5 ⟨rfl, hb5⟩
                          have D5 := Lib.hid (D4.out.keep hb5)
                          have Z4 := Lib.hid (row_kept Z4.out hb5)
                          have Z5 := Lib.hid (row_kept Z5.out hb5)
                          refine hK _ _ ⟨row_of _ _ _ D5.out.z, D5.out.c⟩ ?_
                          clear hK K hb5
                          refine wpAnyH_all (rs := [9]) (by kernel_rfl) (by simp) ?_
                          refine AllHeld.cons rfl (fun K hK => ?_) ?_
                          · go_simp
                            refine (OV.out _).mono ?_
                            rintro e w6 ⟨q, r, rfl, hqr, hb6⟩
                            have HQR := Lib.hid hqr
                            clear hqr
                            have D6 := Lib.hid (D5.out.keep hb6)
                            have Z4 := Lib.hid (row_kept Z4.out hb6)
                            have Z5 := Lib.hid (row_kept Z5.out hb6)
                            refine hK _ _ ⟨row_of _ _ _ D6.out.z, D6.out.c⟩ ?_
                            clear hK K hb6
                            refine wpAnyH_take (i := 10) (v := .tuple #[.agg (nat20 q), .agg (nat20 r)]) rfl (by kernel_rfl) (by kernel_rfl) (by kernel_rfl) (fun _ _ _ h => h) (Or.inl ⟨by rfl, fun _ _ => by go_simp⟩) ⟨row_of _ _ _ D6.out.z, D6.out.c⟩ ?_
                            refine wpAnyH_take (i := 11) (v := .agg (nat20 q)) rfl (by kernel_rfl) (by kernel_rfl) (by kernel_rfl) (fun _ _ _ h => h) (Or.inl ⟨by rfl, fun _ _ => by go_simp⟩) ⟨row_of _ _ _ D6.out.z, D6.out.c⟩ ?_
                            refine wpAnyH_take (i := 12) (v := .agg (nat20 r)) rfl (by kernel_rfl) (by kernel_rfl) (by kernel_rfl) (fun _ _ _ h => h) (Or.inl ⟨by rfl, fun _ _ => by go_simp⟩) ⟨row_of _ _ _ D6.out.z, D6.out.c⟩ ?_
                            refine wpAnyH_all (rs := [15]) (by kernel_rfl) (by simp) ?_
                            have T0 := Lib.hid (SplTwo.mk D6.out Z4.out Z5.out NN.out L4.out L5.out)
                            have gg := row_of _ _ _ T0.out.rq
                            refine held_store rfl rfl 58 _ _ rfl g4 _ rfl rfl 58 _ gg (by kernel_rfl) (by kernel_rfl) (by kernel_rfl) ⟨row_of _ _ _ (T0.out.set4 q).s.z, (T0.out.set4 q).s.c⟩ ?_ ?_
                            · have T1 := Lib.hid (T0.out.set4 q)
                              generalize w6.setRow g4 (nat20 q) = wy at T1 ⊢
                              clear gg
                              refine wpAnyH_all (rs := [16]) (by kernel_rfl) (by simp) ?_
                              have gg := row_of _ _ _ T1.out.rr
                              refine held_store rfl rfl 58 _ _ rfl g5 _ rfl rfl 58 _ gg (by kernel_rfl) (by kernel_rfl) (by kernel_rfl) ⟨row_of _ _ _ (T1.out.set5 r).s.z, (T1.out.set5 r).s.c⟩ ?_ ?_
                              · have T2 := Lib.hid (T1.out.set5 r)
                                generalize wy.setRow g5 (nat20 r) = wz at T2 ⊢
                                clear gg
                                refine wpAnyH_done (by kernel_rfl) ?_ _
                                go_wp2_with fail
                                go_meet
                                exact ⟨g4, g5, q, r, rfl, rfl, T2, HQR⟩
                              · exact AllHeld.nil
                            · exact AllHeld.nil
                          · exact AllHeld.nil
                        · exact AllHeld.nil
                      · exact AllHeld.nil
                  · refine AllHeld.cons rfl (fun K hK => ?_) ?_
                    · go_simp
                      rw [zeros20]
                      have YY := Lib.hid Z4.out.lt
                      have D3 := Lib.hid (D2.out.keep ((Below.refl _ _).alloc (Nat.le_refl _) (.cells (nat20 fun _ => 0) 58)))
                      have Z4 := Lib.hid (Z4.out.alloc (.cells (nat20 fun _ => 0) 58))
                      have Z5 := Lib.hid (row_new w2 fun _ => 0)
                      have L5 := Lib.hid D2.out.bl.size
                      refine hK _ _ ⟨row_of _ _ _ D3.out.z, D3.out.c⟩ ?_
                      clear hK K
                      generalize w2.alloc (.cells (nat20 fun _ => 0) 58) = w3 at D3 Z5 Z4 ⊢
                      generalize w2.heap.size = g5 at Z5 L5 YY ⊢
                      have NN : Hid (g4 ≠ g5) := Lib.hid (show g4 ≠ g5 by have := YY.out; omega)
                      refine wpAnyH_all (rs := [6]) (by kernel_rfl) (by simp) ?_
                      refine AllHeld.cons rfl (fun K hK => ?_) ?_
                      · go_simp
                        refine (TM.out _).mono ?_
                        rintro e w4 ⟨rfl, hb4⟩
                        have D4 := Lib.hid (D3.out.keep hb4)
                        have Z4 := Lib.hid (row_kept Z4.out hb4)
                        have Z5 := Lib.hid (row_kept Z5.out hb4)
                        refine hK _ _ ⟨row_of _ _ _ D4.out.z, D4.out.c⟩ ?_
                        clear hK K hb4
                        refine wpAnyH_all (rs := [8]) (by kernel_rfl) (by simp) ?_
                        refine AllHeld.cons rfl (fun K hK => ?_) ?_
                        · go_simp
                          refine (SS.out _).mono ?_
                          rintro e w5 ⟨rfl, hb5⟩
                          have D5 := Lib.hid (D4.out.keep hb5)
                          have Z4 := Lib.hid (row_kept Z4.out hb5)
                          have Z5 := Lib.hid (row_kept Z5.out hb5)
                          refine hK _ _ ⟨row_of _ _ _ D5.out.z, D5.out.c⟩ ?_
                          clear hK K hb5
                          refine wpAnyH_all (rs := [9]) (by kernel_rfl) (by simp) ?_
                          refine AllHeld.cons rfl (fun K hK => ?_) ?_
                          · go_simp
                            refine (OV.out _).mono ?_
                            rintro e w6 ⟨q, r, rfl, hqr, hb6⟩
                            have HQR := Lib.hid hqr
                            clear hqr
                            have D6 := Lib.hid (D5.out.keep hb6)
                            have Z4 := Lib.hid (row_kept Z4.out hb6)
                            have Z5 := Lib.hid (row_kept Z5.out hb6)
                            refine hK _ _ ⟨row_of _ _ _ D6.out.z, D6.out.c⟩ ?_
                            clear hK K hb6
                            refine wpAnyH_take (i := 10) (v := .tuple #[.agg (nat20 q), .agg (nat20 r)]) rfl (by kernel_rfl) (by kernel_rfl) (by kernel_rfl) (fun _ _ _ h => h) (Or.inl ⟨by rfl, fun _ _ => by go_simp⟩) ⟨row_of _ _ _ D6.out.z, D6.out.c⟩ ?_
                            refine wpAnyH_take (i := 11) (v := .agg (nat20 q)) rfl (by kernel_rfl) (by kernel_rfl) (by kernel_rfl) (fun _ _ _ h => h) (Or.inl ⟨by rfl, fun _ _ => by go_simp⟩) ⟨row_of _ _ _ D6.out.z, D6.out.c⟩ ?_
                            refine wpAnyH_take (i := 12) (v := .agg (nat20 r)) rfl (by kernel_rfl) (by kernel_rfl) (by kernel_rfl) (fun _ _ _ h => h) (Or.inl ⟨by rfl, fun _ _ => by go_simp⟩) ⟨row_of _ _ _ D6.out.z, D6.out.c⟩ ?_
                            refine wpAnyH_all (rs := [15]) (by kernel_rfl) (by simp) ?_
                            have T0 := Lib.hid (SplTwo.mk D6.out Z4.out Z5.out NN.out L4.out L5.out)
                            have gg := row_of _ _ _ T0.out.rq
                            refine held_store rfl rfl 58 _ _ rfl g4 _ rfl rfl 58 _ gg (by kernel_rfl) (by kernel_rfl) (by kernel_rfl) ⟨row_of _ _ _ (T0.out.set4 q).s.z, (T0.out.set4 q).s.c⟩ ?_ ?_
                            · have T1 := Lib.hid (T0.out.set4 q)
                              generalize w6.setRow g4 (nat20 q) = wy at T1 ⊢
                              clear gg
                              refine wpAnyH_all (rs := [16]) (by kernel_rfl) (by simp) ?_
                              have gg := row_of _ _ _ T1.out.rr
                              refine held_store rfl rfl 58 _ _ rfl g5 _ rfl rfl 58 _ gg (by kernel_rfl) (by kernel_rfl) (by kernel_rfl) ⟨row_of _ _ _ (T1.out.set5 r).s.z, (T1.out.set5 r).s.c⟩ ?_ ?_
                              · have T2 := Lib.hid (T1.out.set5 r)
                                generalize wy.setRow g5 (nat20 r) = wz at T2 ⊢
                                clear gg
                                refine wpAnyH_done (by kernel_rfl) ?_ _
                                go_wp2_with fail
                                go_meet
                                exact ⟨g4, g5, q, r, rfl, rfl, T2, HQR⟩
                              · exact AllHeld.nil
                            · exact AllHeld.nil
                          · exact AllHeld.nil
                        · exact AllHeld.nil
                      · exact AllHeld.nil
                    · exact AllHeld.nil
                · refine AllHeld.cons rfl (fun K hK => ?_) ?_
                  · go_simp
                    rw [zeros20]
                    have D2 := Lib.hid (D1.out.keep ((Below.refl _ _).alloc (Nat.le_refl _) (.cells (nat20 fun _ => 0) 58)))
                    have Z5 := Lib.hid (row_new w1 fun _ => 0)
                    have L5 := Lib.hid D1.out.bl.size
                    refine hK _ _ ⟨row_of _ _ _ D2.out.z, D2.out.c⟩ ?_
                    clear hK K
                    generalize w1.alloc (.cells (nat20 fun _ => 0) 58) = w2 at D2 Z5 ⊢
                    generalize w1.heap.size = g5 at Z5 L5 ⊢
                    refine wpAnyH_all (rs := [6, 13]) (by kernel_rfl) (by simp) ?_
                    refine AllHeld.cons rfl (fun K hK => ?_) ?_
                    · go_simp
                      refine (TM.out _).mono ?_
                      rintro e w3 ⟨rfl, hb3⟩
                      have D3 := Lib.hid (D2.out.keep hb3)
                      have Z5 := Lib.hid (row_kept Z5.out hb3)
                      refine hK _ _ ⟨row_of _ _ _ D3.out.z, D3.out.c⟩ ?_
                      clear hK K hb3
                      refine wpAnyH_all (rs := [8, 13]) (by kernel_rfl) (by simp) ?_
                      refine AllHeld.cons rfl (fun K hK => ?_) ?_
                      · go_simp
                        refine (SS.out _).mono ?_
                        rintro e w4 ⟨rfl, hb4⟩
                        have D4 := Lib.hid (D3.out.keep hb4)
                        have Z5 := Lib.hid (row_kept Z5.out hb4)
                        refine hK _ _ ⟨row_of _ _ _ D4.out.z, D4.out.c⟩ ?_
                        clear hK K hb4
                        refine wpAnyH_all (rs := [9, 13]) (by kernel_rfl) (by simp) ?_
                        refine AllHeld.cons rfl (fun K hK => ?_) ?_
                        · go_simp
                          refine (OV.out _).mono ?_
                          rintro e w5 ⟨q, r, rfl, hqr, hb5⟩
                          have HQR := Lib.hid hqr
                          clear hqr
                          have D5 := Lib.hid (D4.out.keep hb5)
                          have Z5 := Lib.hid (row_kept Z5.out hb5)
                          refine hK _ _ ⟨row_of _ _ _ D5.out.z, D5.out.c⟩ ?_
                          clear hK K hb5
                          refine wpAnyH_take (i := 10) (v := .tuple #[.agg (nat20 q), .agg (nat20 r)]) rfl (by kernel_rfl) (by kernel_rfl) (by kernel_rfl) (fun _ _ _ h => h) (Or.inl ⟨by rfl, fun _ _ => by go_simp⟩) ⟨row_of _ _ _ D5.out.z, D5.out.c⟩ ?_
                          refine wpAnyH_take (i := 11) (v := .agg (nat20 q)) rfl (by kernel_rfl) (by kernel_rfl) (by kernel_rfl) (fun _ _ _ h => h) (Or.inl ⟨by rfl, fun _ _ => by go_simp⟩) ⟨row_of _ _ _ D5.out.z, D5.out.c⟩ ?_
                          refine wpAnyH_take (i := 12) (v := .agg (nat20 r)) rfl (by kernel_rfl) (by kernel_rfl) (by kernel_rfl) (fun _ _ _ h => h) (Or.inl ⟨by rfl, fun _ _ => by go_simp⟩) ⟨row_of _ _ _ D5.out.z, D5.out.c⟩ ?_
                          refine wpAnyH_all (rs := [13]) (by kernel_rfl) (by simp) ?_
                          refine AllHeld.cons rfl (fun K hK => ?_) ?_
                          · go_simp
                            rw [zeros20]
                            have YY := Lib.hid Z5.out.lt
                            have D6 := Lib.hid (D5.out.keep ((Below.refl _ _).alloc (Nat.le_refl _) (.cells (nat20 fun _ => 0) 58)))
                            have Z5 := Lib.hid (Z5.out.alloc (.cells (nat20 fun _ => 0) 58))
                            have Z4 := Lib.hid (row_new w5 fun _ => 0)
                            have L4 := Lib.hid D5.out.bl.size
                            refine hK _ _ ⟨row_of _ _ _ D6.out.z, D6.out.c⟩ ?_
                            clear hK K
                            generalize w5.alloc (.cells (nat20 fun _ => 0) 58) = w6 at D6 Z4 Z5 ⊢
                            generalize w5.heap.size = g4 at Z4 L4 YY ⊢
                            have NN : Hid (g4 ≠ g5) := Lib.hid (show g4 ≠ g5 by have := YY.out; omega)
                            refine wpAnyH_all (rs := [15]) (by kernel_rfl) (by simp) ?_
                            have T0 := Lib.hid (SplTwo.mk D6.out Z4.out Z5.out NN.out L4.out L5.out)
                            have gg := row_of _ _ _ T0.out.rq
                            refine held_store rfl rfl 58 _ _ rfl g4 _ rfl rfl 58 _ gg (by kernel_rfl) (by kernel_rfl) (by kernel_rfl) ⟨row_of _ _ _ (T0.out.set4 q).s.z, (T0.out.set4 q).s.c⟩ ?_ ?_
                            · have T1 := Lib.hid (T0.out.set4 q)
                              generalize w6.setRow g4 (nat20 q) = wy at T1 ⊢
                              clear gg
                              refine wpAnyH_all (rs := [16]) (by kernel_rfl) (by simp) ?_
                              have gg := row_of _ _ _ T1.out.rr
                              refine held_store rfl rfl 58 _ _ rfl g5 _ rfl rfl 58 _ gg (by kernel_rfl) (by kernel_rfl) (by kernel_rfl) ⟨row_of _ _ _ (T1.out.set5 r).s.z, (T1.out.set5 r).s.c⟩ ?_ ?_
                              · have T2 := Lib.hid (T1.out.set5 r)
                                generalize wy.setRow g5 (nat20 r) = wz at T2 ⊢
                                clear gg
                                refine wpAnyH_done (by kernel_rfl) ?_ _
                                go_wp2_with fail
                                go_meet
                                exact ⟨g4, g5, q, r, rfl, rfl, T2, HQR⟩
                              · exact AllHeld.nil
                            · exact AllHeld.nil
                          · exact AllHeld.nil
                        · refine AllHeld.cons rfl (fun K hK => ?_) ?_
                          · go_simp
                            rw [zeros20]
                            have YY := Lib.hid Z5.out.lt
                            have D5 := Lib.hid (D4.out.keep ((Below.refl _ _).alloc (Nat.le_refl _) (.cells (nat20 fun _ => 0) 58)))
                            have Z5 := Lib.hid (Z5.out.alloc (.cells (nat20 fun _ => 0) 58))
                            have Z4 := Lib.hid (row_new w4 fun _ => 0)
                            have L4 := Lib.hid D4.out.bl.size
                            refine hK _ _ ⟨row_of _ _ _ D5.out.z, D5.out.c⟩ ?_
                            clear hK K
                            generalize w4.alloc (.cells (nat20 fun _ => 0) 58) = w5 at D5 Z4 Z5 ⊢
                            generalize w4.heap.size = g4 at Z4 L4 YY ⊢
                            have NN : Hid (g4 ≠ g5) := Lib.hid (show g4 ≠ g5 by have := YY.out; omega)
                            refine wpAnyH_all (rs := [9]) (by kernel_rfl) (by simp) ?_
                            refine AllHeld.cons rfl (fun K hK => ?_) ?_
                            · go_simp
                              refine (OV.out _).mono ?_
                              rintro e w6 ⟨q, r, rfl, hqr, hb6⟩
                              have HQR := Lib.hid hqr
                              clear hqr
                              have D6 := Lib.hid (D5.out.keep hb6)
                              have Z4 := Lib.hid (row_kept Z4.out hb6)
                              have Z5 := Lib.hid (row_kept Z5.out hb6)
                              refine hK _ _ ⟨row_of _ _ _ D6.out.z, D6.out.c⟩ ?_
                              clear hK K hb6
                              refine wpAnyH_take (i := 10) (v := .tuple #[.agg (nat20 q), .agg (nat20 r)]) rfl (by kernel_rfl) (by kernel_rfl) (by kernel_rfl) (fun _ _ _ h => h) (Or.inl ⟨by rfl, fun _ _ => by go_simp⟩) ⟨row_of _ _ _ D6.out.z, D6.out.c⟩ ?_
                              refine wpAnyH_take (i := 11) (v := .agg (nat20 q)) rfl (by kernel_rfl) (by kernel_rfl) (by kernel_rfl) (fun _ _ _ h => h) (Or.inl ⟨by rfl, fun _ _ => by go_simp⟩) ⟨row_of _ _ _ D6.out.z, D6.out.c⟩ ?_
                              refine wpAnyH_take (i := 12) (v := .agg (nat20 r)) rfl (by kernel_rfl) (by kernel_rfl) (by kernel_rfl) (fun _ _ _ h => h) (Or.inl ⟨by rfl, fun _ _ => by go_simp⟩) ⟨row_of _ _ _ D6.out.z, D6.out.c⟩ ?_
                              refine wpAnyH_all (rs := [15]) (by kernel_rfl) (by simp) ?_
                              have T0 := Lib.hid (SplTwo.mk D6.out Z4.out Z5.out NN.out L4.out L5.out)
                              have gg := row_of _ _ _ T0.out.rq
                              refine held_store rfl rfl 58 _ _ rfl g4 _ rfl rfl 58 _ gg (by kernel_rfl) (by kernel_rfl) (by kernel_rfl) ⟨row_of _ _ _ (T0.out.set4 q).s.z, (T0.out.set4 q).s.c⟩ ?_ ?_
                              · have T1 := Lib.hid (T0.out.set4 q)
                                generalize w6.setRow g4 (nat20 q) = wy at T1 ⊢
                                clear gg
                                refine wpAnyH_all (rs := [16]) (by kernel_rfl) (by simp) ?_
                                have gg := row_of _ _ _ T1.out.rr
                                refine held_store rfl rfl 58 _ _ rfl g5 _ rfl rfl 58 _ gg (by kernel_rfl) (by kernel_rfl) (by kernel_rfl) ⟨row_of _ _ _ (T1.out.set5 r).s.z, (T1.out.set5 r).s.c⟩ ?_ ?_
                                · have T2 := Lib.hid (T1.out.set5 r)
                                  generalize wy.setRow g5 (nat20 r) = wz at T2 ⊢
                                  clear gg
                                  refine wpAnyH_done (by kernel_rfl) ?_ _
                                  go_wp2_with fail
                                  go_meet
                                  exact ⟨g4, g5, q, r, rfl, rfl, T2, HQR⟩
                                · exact AllHeld.nil
                              · exact AllHeld.nil
                            · exact AllHeld.nil
                          · exact AllHeld.nil
                      · refine AllHeld.cons rfl (fun K hK => ?_) ?_
                        · go_simp
                          rw [zeros20]
                          have YY := Lib.hid Z5.out.lt
                          have D4 := Lib.hid (D3.out.keep ((Below.refl _ _).alloc (Nat.le_refl _) (.cells (nat20 fun _ => 0) 58)))
                          have Z5 := Lib.hid (Z5.out.alloc (.cells (nat20 fun _ => 0) 58))
                          have Z4 := Lib.hid (row_new w3 fun _ => 0)
                          have L4 := Lib.hid D3.out.bl.size
                          refine hK _ _ ⟨row_of _ _ _ D4.out.z, D4.out.c⟩ ?_
                          clear hK K
                          generalize w3.alloc (.cells (nat20 fun _ => 0) 58) = w4 at D4 Z4 Z5 ⊢
                          generalize w3.heap.size = g4 at Z4 L4 YY ⊢
                          have NN : Hid (g4 ≠ g5) := Lib.hid (show g4 ≠ g5 by have := YY.out; omega)
                          refine wpAnyH_all (rs := [8]) (by kernel_rfl) (by simp) ?_
                          refine AllHeld.cons rfl (fun K hK => ?_) ?_
                          · go_simp
                            refine (SS.out _).mono ?_
                            rintro e w5 ⟨rfl, hb5⟩
                            have D5 := Lib.hid (D4.out.keep hb5)
                            have Z4 := Lib.hid (row_kept Z4.out hb5)
                            have Z5 := Lib.hid (row_kept Z5.out hb5)
                            refine hK _ _ ⟨row_of _ _ _ D5.out.z, D5.out.c⟩ ?_
                            clear hK K hb5
                            refine wpAnyH_all (rs := [9]) (by kernel_rfl) (by simp) ?_
                            refine AllHeld.cons rfl (fun K hK => ?_) ?_
                            · go_simp
                              refine (OV.out _).mono ?_
                              rintro e w6 ⟨q, r, rfl, hqr, hb6⟩
                              have HQR := Lib.hid hqr
                              clear hqr
                              have D6 := Lib.hid (D5.out.keep hb6)
                              have Z4 := Lib.hid (row_kept Z4.out hb6)
                              have Z5 := Lib.hid (row_kept Z5.out hb6)
                              refine hK _ _ ⟨row_of _ _ _ D6.out.z, D6.out.c⟩ ?_
                              clear hK K hb6
                              refine wpAnyH_take (i := 10) (v := .tuple #[.agg (nat20 q), .agg (nat20 r)]) rfl (by kernel_rfl) (by kernel_rfl) (by kernel_rfl) (fun _ _ _ h => h) (Or.inl ⟨by rfl, fun _ _ => by go_simp⟩) ⟨row_of _ _ _ D6.out.z, D6.out.c⟩ ?_
                              refine wpAnyH_take (i := 11) (v := .agg (nat20 q)) rfl (by kernel_rfl) (by kernel_rfl) (by kernel_rfl) (fun _ _ _ h => h) (Or.inl ⟨by rfl, fun _ _ => by go_simp⟩) ⟨row_of _ _ _ D6.out.z, D6.out.c⟩ ?_
                              refine wpAnyH_take (i := 12) (v := .agg (nat20 r)) rfl (by kernel_rfl) (by kernel_rfl) (by kernel_rfl) (fun _ _ _ h => h) (Or.inl ⟨by rfl, fun _ _ => by go_simp⟩) ⟨row_of _ _ _ D6.out.z, D6.out.c⟩ ?_
                              refine wpAnyH_all (rs := [15]) (by kernel_rfl) (by simp) ?_
                              have T0 := Lib.hid (SplTwo.mk D6.out Z4.out Z5.out NN.out L4.out L5.out)
                              have gg := row_of _ _ _ T0.out.rq
                              refine held_store rfl rfl 58 _ _ rfl g4 _ rfl rfl 58 _ gg (by kernel_rfl) (by kernel_rfl) (by kernel_rfl) ⟨row_of _ _ _ (T0.out.set4 q).s.z, (T0.out.set4 q).s.c⟩ ?_ ?_
                              · have T1 := Lib.hid (T0.out.set4 q)
                                generalize w6.setRow g4 (nat20 q) = wy at T1 ⊢
                                clear gg
                                refine wpAnyH_all (rs := [16]) (by kernel_rfl) (by simp) ?_
                                have gg := row_of _ _ _ T1.out.rr
                                refine held_store rfl rfl 58 _ _ rfl g5 _ rfl rfl 58 _ gg (by kernel_rfl) (by kernel_rfl) (by kernel_rfl) ⟨row_of _ _ _ (T1.out.set5 r).s.z, (T1.out.set5 r).s.c⟩ ?_ ?_
                                · have T2 := Lib.hid (T1.out.set5 r)
                                  generalize wy.setRow g5 (nat20 r) = wz at T2 ⊢
                                  clear gg
                                  refine wpAnyH_done (by kernel_rfl) ?_ _
                                  go_wp2_with fail
                                  go_meet
                                  exact ⟨g4, g5, q, r, rfl, rfl, T2, HQR⟩
                                · exact AllHeld.nil
                              · exact AllHeld.nil
                            · exact AllHeld.nil
                          · exact AllHeld.nil
                        · exact AllHeld.nil
                    · refine AllHeld.cons rfl (fun K hK => ?_) ?_
                      · go_simp
                        rw [zeros20]
                        have YY := Lib.hid Z5.out.lt
                        have D3 := Lib.hid (D2.out.keep ((Below.refl _ _).alloc (Nat.le_refl _) (.cells (nat20 fun _ => 0) 58)))
                        have Z5 := Lib.hid (Z5.out.alloc (.cells (nat20 fun _ => 0) 58))
                        have Z4 := Lib.hid (row_new w2 fun _ => 0)
                        have L4 := Lib.hid D2.out.bl.size
                        refine hK _ _ ⟨row_of _ _ _ D3.out.z, D3.out.c⟩ ?_
                        clear hK K
                        generalize w2.alloc (.cells (nat20 fun _ => 0) 58) = w3 at D3 Z4 Z5 ⊢
                        generalize w2.heap.size = g4 at Z4 L4 YY ⊢
                        have NN : Hid (g4 ≠ g5) := Lib.hid (show g4 ≠ g5 by have := YY.out; omega)
                        refine wpAnyH_all (rs := [6]) (by kernel_rfl) (by simp) ?_
                        refine AllHeld.cons rfl (fun K hK => ?_) ?_
                        · go_simp
                          refine (TM.out _).mono ?_
                          rintro e w4 ⟨rfl, hb4⟩
                          have D4 := Lib.hid (D3.out.keep hb4)
                          have Z4 := Lib.hid (row_kept Z4.out hb4)
                          have Z5 := Lib.hid (row_kept Z5.out hb4)
                          refine hK _ _ ⟨row_of _ _ _ D4.out.z, D4.out.c⟩ ?_
                          clear hK K hb4
                          refine wpAnyH_all (rs := [8]) (by kernel_rfl) (by simp) ?_
                          refine AllHeld.cons rfl (fun K hK => ?_) ?_
                          · go_simp
                            refine (SS.out _).mono ?_
                            rintro e w5 ⟨rfl, hb5⟩
                            have D5 := Lib.hid (D4.out.keep hb5)
                            have Z4 := Lib.hid (row_kept Z4.out hb5)
                            have Z5 := Lib.hid (row_kept Z5.out hb5)
                            refine hK _ _ ⟨row_of _ _ _ D5.out.z, D5.out.c⟩ ?_
                            clear hK K hb5
                            refine wpAnyH_all (rs := [9]) (by kernel_rfl) (by simp) ?_
                            refine AllHeld.cons rfl (fun K hK => ?_) ?_
                            · go_simp
                              refine (OV.out _).mono ?_
                              rintro e w6 ⟨q, r, rfl, hqr, hb6⟩
                              have HQR := Lib.hid hqr
                              clear hqr
                              have D6 := Lib.hid (D5.out.keep hb6)
                              have Z4 := Lib.hid (row_kept Z4.out hb6)
                              have Z5 := Lib.hid (row_kept Z5.out hb6)
                              refine hK _ _ ⟨row_of _ _ _ D6.out.z, D6.out.c⟩ ?_
                              clear hK K hb6
                              refine wpAnyH_take (i := 10) (v := .tuple #[.agg (nat20 q), .agg (nat20 r)]) rfl (by kernel_rfl) (by kernel_rfl) (by kernel_rfl) (fun _ _ _ h => h) (Or.inl ⟨by rfl, fun _ _ => by go_simp⟩) ⟨row_of _ _ _ D6.out.z, D6.out.c⟩ ?_
                              refine wpAnyH_take (i := 11) (v := .agg (nat20 q)) rfl (by kernel_rfl) (by kernel_rfl) (by kernel_rfl) (fun _ _ _ h => h) (Or.inl ⟨by rfl, fun _ _ => by go_simp⟩) ⟨row_of _ _ _ D6.out.z, D6.out.c⟩ ?_
                              refine wpAnyH_take (i := 12) (v := .agg (nat20 r)) rfl (by kernel_rfl) (by kernel_rfl) (by kernel_rfl) (fun _ _ _ h => h) (Or.inl ⟨by rfl, fun _ _ => by go_simp⟩) ⟨row_of _ _ _ D6.out.z, D6.out.c⟩ ?_
                              refine wpAnyH_all (rs := [15]) (by kernel_rfl) (by simp) ?_
                              have T0 := Lib.hid (SplTwo.mk D6.out Z4.out Z5.out NN.out L4.out L5.out)
                              have gg := row_of _ _ _ T0.out.rq
                              refine held_store rfl rfl 58 _ _ rfl g4 _ rfl rfl 58 _ gg (by kernel_rfl) (by kernel_rfl) (by kernel_rfl) ⟨row_of _ _ _ (T0.out.set4 q).s.z, (T0.out.set4 q).s.c⟩ ?_ ?_
                              · have T1 := Lib.hid (T0.out.set4 q)
                                generalize w6.setRow g4 (nat20 q) = wy at T1 ⊢
                                clear gg
                                refine wpAnyH_all (rs := [16]) (by kernel_rfl) (by simp) ?_
                                have gg := row_of _ _ _ T1.out.rr
                                refine held_store rfl rfl 58 _ _ rfl g5 _ rfl rfl 58 _ gg (by kernel_rfl) (by kernel_rfl) (by kernel_rfl) ⟨row_of _ _ _ (T1.out.set5 r).s.z, (T1.out.set5 r).s.c⟩ ?_ ?_
                                · have T2 := Lib.hid (T1.out.set5 r)
                                  generalize wy.setRow g5 (nat20 r) = wz at T2 ⊢
                                  clear gg
                                  refine wpAnyH_done (by kernel_rfl) ?_ _
                                  go_wp2_with fail
                                  go_meet
                                  exact ⟨g4, g5, q, r, rfl, rfl, T2, HQR⟩
                                · exact AllHeld.nil
                              · exact AllHeld.nil
                            · exact AllHeld.nil
                          · exact AllHeld.nil
                        · exact AllHeld.nil
                      · exact AllHeld.nil
                  · exact AllHeld.nil
            · refine AllHeld.cons rfl (fun K hK => ?_) ?_
              · go_simp
                rw [zeros20]
                have D1 := Lib.hid (D0.out.keep ((Below.refl _ _).alloc (Nat.le_refl _) (.cells (nat20 fun _ => 0) 58)))
                have Z4 := Lib.hid (row_new w0 fun _ => 0)
                have L4 := Lib.hid D0.out.bl.size
                refine hK _ _ ⟨row_of _ _ _ D1.out.z, D1.out.c⟩ ?_
                clear hK K
                generalize w0.alloc (.cells (nat20 fun _ => 0) 58) = w1 at D1 Z4 ⊢
                generalize w0.heap.size = g4 at Z4 L4 ⊢
                refine wpAnyH_all (rs := [5, 14]) (by kernel_rfl) (by simp) ?_
                refine AllHeld.cons rfl (fun K hK => ?_) ?_
                · go_simp
                  refine (SX.out _).mono ?_
                  rintro e w2 ⟨rfl, hb2⟩
                  have D2 := Lib.hid (D1.out.keep hb2)
                  have Z4 := Lib.hid (row_kept Z4.out hb2)
                  refine hK _ _ ⟨row_of _ _ _ D2.out.z, D2.out.c⟩ ?_
                  clear hK K hb2
                  refine wpAnyH_all (rs := [6, 14]) (by kernel_rfl) (by simp) ?_
                  refine AllHeld.cons rfl (fun K hK => ?_) ?_
                  · go_simp
                    refine (TM.out _).mono ?_
                    rintro e w3 ⟨rfl, hb3⟩
                    have D3 := Lib.hid (D2.out.keep hb3)
                    have Z4 := Lib.hid (row_kept Z4.out hb3)
                    refine hK _ _ ⟨row_of _ _ _ D3.out.z, D3.out.c⟩ ?_
                    clear hK K hb3
                    refine wpAnyH_all (rs := [8, 14]) (by kernel_rfl) (by simp) ?_
                    refine AllHeld.cons rfl (fun K hK => ?_) ?_
                    · go_simp
                      refine (SS.out _).mono ?_
                      rintro e w4 ⟨rfl, hb4⟩
                      have D4 := Lib.hid (D3.out.keep hb4)
                      have Z4 := Lib.hid (row_kept Z4.out hb4)
                      refine hK _ _ ⟨row_of _ _ _ D4.out.z, D4.out.c⟩ ?_
                      clear hK K hb4
                      refine wpAnyH_all (rs := [9, 14]) (by kernel_rfl) (by simp) ?_
                      refine AllHeld.cons rfl (fun K hK => ?_) ?_
                      · go_simp
                        refine (OV.out _).mono ?_
                        rintro e w5 ⟨q, r, rfl, hqr, hb5⟩
                        have HQR := Lib.hid hqr
                        clear hqr
                        have D5 := Lib.hid (D4.out.keep hb5)
                        have Z4 := Lib.hid (row_kept Z4.out hb5)
                        refine hK _ _ ⟨row_of _ _ _ D5.out.z, D5.out.c⟩ ?_
                        clear hK K hb5
                        refine wpAnyH_take (i := 10) (v := .tuple #[.agg (nat20 q), .agg (nat20 r)]) rfl (by kernel_rfl) (by kernel_rfl) (by kernel_rfl) (fun _ _ _ h => h) (Or.inl ⟨by rfl, fun _ _ => by go_simp⟩) ⟨row_of _ _ _ D5.out.z, D5.out.c⟩ ?_
                        refine wpAnyH_take (i := 11) (v := .agg (nat20 q)) rfl (by kernel_rfl) (by kernel_rfl) (by kernel_rfl) (fun _ _ _ h => h) (Or.inl ⟨by rfl, fun _ _ => by go_simp⟩) ⟨row_of _ _ _ D5.out.z, D5.out.c⟩ ?_
                        refine wpAnyH_take (i := 12) (v := .agg (nat20 r)) rfl (by kernel_rfl) (by kernel_rfl) (by kernel_rfl) (fun _ _ _ h => h) (Or.inl ⟨by rfl, fun _ _ => by go_simp⟩) ⟨row_of _ _ _ D5.out.z, D5.out.c⟩ ?_
                        refine wpAnyH_all (rs := [14]) (by kernel_rfl) (by simp) ?_
                        refine AllHeld.cons rfl (fun K hK => ?_) ?_
                        · go_simp
                          rw [zeros20]
                          have YY := Lib.hid Z4.out.lt
                          have D6 := Lib.hid (D5.out.keep ((Below.refl _ _).alloc (Nat.le_refl _) (.cells (nat20 fun _ => 0) 58)))
                          have Z4 := Lib.hid (Z4.out.alloc (.cells (nat20 fun _ => 0) 58))
                          have Z5 := Lib.hid (row_new w5 fun _ => 0)
                          have L5 := Lib.hid D5.out.bl.size
                          refine hK _ _ ⟨row_of _ _ _ D6.out.z, D6.out.c⟩ ?_
                          clear hK K
                          generalize w5.alloc (.cells (nat20 fun _ => 0) 58) = w6 at D6 Z5 Z4 ⊢
                          generalize w5.heap.size = g5 at Z5 L5 YY ⊢
                          have NN : Hid (g4 ≠ g5) := Lib.hid (show g4 ≠ g5 by have := YY.out; omega)
                          refine wpAnyH_all (rs := [15]) (by kernel_rfl) (by simp) ?_
                          have T0 := Lib.hid (SplTwo.mk D6.out Z4.out Z5.out NN.out L4.out L5.out)
                          have gg := row_of _ _ _ T0.out.rq
                          refine held_store rfl rfl 58 _ _ rfl g4 _ rfl rfl 58 _ gg (by kernel_rfl) (by kernel_rfl) (by kernel_rfl) ⟨row_of _ _ _ (T0.out.set4 q).s.z, (T0.out.set4 q).s.c⟩ ?_ ?_
                          · have T1 := Lib.hid (T0.out.set4 q)
                            generalize w6.setRow g4 (nat20 q) = wy at T1 ⊢
                            clear gg
                            refine wpAnyH_all (rs := [16]) (by kernel_rfl) (by simp) ?_
                            have gg := row_of _ _ _ T1.out.rr
                            refine held_store rfl rfl 58 _ _ rfl g5 _ rfl rfl 58 _ gg (by kernel_rfl) (by kernel_rfl) (by kernel_rfl) ⟨row_of _ _ _ (T1.out.set5 r).s.z, (T1.out.set5 r).s.c⟩ ?_ ?_
                            · have T2 := Lib.hid (T1.out.set5 r)
                              generalize wy.setRow g5 (nat20 r) = wz at T2 ⊢
                              clear gg
                              refine wpAnyH_done (by kernel_rfl) ?_ _
                              go_wp2_with fail
                              go_meet
                              exact ⟨g4, g5, q, r, rfl, rfl, T2, HQR⟩
                            · exact AllHeld.nil
                          · exact AllHeld.nil
                        · exact AllHeld.nil
                      · refine AllHeld.cons rfl (fun K hK => ?_) ?_
                        · go_simp
                          rw [zeros20]
                          have YY := Lib.hid Z4.out.lt
                          have D5 := Lib.hid (D4.out.keep ((Below.refl _ _).alloc (Nat.le_refl _) (.cells (nat20 fun _ => 0) 58)))
                          have Z4 := Lib.hid (Z4.out.alloc (.cells (nat20 fun _ => 0) 58))
                          have Z5 := Lib.hid (row_new w4 fun _ => 0)
                          have L5 := Lib.hid D4.out.bl.size
                          refine hK _ _ ⟨row_of _ _ _ D5.out.z, D5.out.c⟩ ?_
                          clear hK K
                          generalize w4.alloc (.cells (nat20 fun _ => 0) 58) = w5 at D5 Z5 Z4 ⊢
                          generalize w4.heap.size = g5 at Z5 L5 YY ⊢
                          have NN : Hid (g4 ≠ g5) := Lib.hid (show g4 ≠ g5 by have := YY.out; omega)
                          refine wpAnyH_all (rs := [9]) (by kernel_rfl) (by simp) ?_
                          refine AllHeld.cons rfl (fun K hK => ?_) ?_
                          · go_simp
                            refine (OV.out _).mono ?_
                            rintro e w6 ⟨q, r, rfl, hqr, hb6⟩
                            have HQR := Lib.hid hqr
                            clear hqr
                            have D6 := Lib.hid (D5.out.keep hb6)
                            have Z4 := Lib.hid (row_kept Z4.out hb6)
                            have Z5 := Lib.hid (row_kept Z5.out hb6)
                            refine hK _ _ ⟨row_of _ _ _ D6.out.z, D6.out.c⟩ ?_
                            clear hK K hb6
                            refine wpAnyH_take (i := 10) (v := .tuple #[.agg (nat20 q), .agg (nat20 r)]) rfl (by kernel_rfl) (by kernel_rfl) (by kernel_rfl) (fun _ _ _ h => h) (Or.inl ⟨by rfl, fun _ _ => by go_simp⟩) ⟨row_of _ _ _ D6.out.z, D6.out.c⟩ ?_
                            refine wpAnyH_take (i := 11) (v := .agg (nat20 q)) rfl (by kernel_rfl) (by kernel_rfl) (by kernel_rfl) (fun _ _ _ h => h) (Or.inl ⟨by rfl, fun _ _ => by go_simp⟩) ⟨row_of _ _ _ D6.out.z, D6.out.c⟩ ?_
                            refine wpAnyH_take (i := 12) (v := .agg (nat20 r)) rfl (by kernel_rfl) (by kernel_rfl) (by kernel_rfl) (fun _ _ _ h => h) (Or.inl ⟨by rfl, fun _ _ => by go_simp⟩) ⟨row_of _ _ _ D6.out.z, D6.out.c⟩ ?_
                            refine wpAnyH_all (rs := [15]) (by kernel_rfl) (by simp) ?_
                            have T0 := Lib.hid (SplTwo.mk D6.out Z4.out Z5.out NN.out L4.out L5.out)
                            have gg := row_of _ _ _ T0.out.rq
                            refine held_store rfl rfl 58 _ _ rfl g4 _ rfl rfl 58 _ gg (by kernel_rfl) (by kernel_rfl) (by kernel_rfl) ⟨row_of _ _ _ (T0.out.set4 q).s.z, (T0.out.set4 q).s.c⟩ ?_ ?_
                            · have T1 := Lib.hid (T0.out.set4 q)
                              generalize w6.setRow g4 (nat20 q) = wy at T1 ⊢
                              clear gg
                              refine wpAnyH_all (rs := [16]) (by kernel_rfl) (by simp) ?_
                              have gg := row_of _ _ _ T1.out.rr
                              refine held_store rfl rfl 58 _ _ rfl g5 _ rfl rfl 58 _ gg (by kernel_rfl) (by kernel_rfl) (by kernel_rfl) ⟨row_of _ _ _ (T1.out.set5 r).s.z, (T1.out.set5 r).s.c⟩ ?_ ?_
                              · have T2 := Lib.hid (T1.out.set5 r)
                                generalize wy.setRow g5 (nat20 r) = wz at T2 ⊢
                                clear gg
                                refine wpAnyH_done (by kernel_rfl) ?_ _
                                go_wp2_with fail
                                go_meet
                                exact ⟨g4, g5, q, r, rfl, rfl, T2, HQR⟩
                              · exact AllHeld.nil
                            · exact AllHeld.nil
                          · exact AllHeld.nil
                        · exact AllHeld.nil
                    · refine AllHeld.cons rfl (fun K hK => ?_) ?_
                      · go_simp
                        rw [zeros20]
                        have YY := Lib.hid Z4.out.lt
                        have D4 := Lib.hid (D3.out.keep ((Below.refl _ _).alloc (Nat.le_refl _) (.cells (nat20 fun _ => 0) 58)))
                        have Z4 := Lib.hid (Z4.out.alloc (.cells (nat20 fun _ => 0) 58))
                        have Z5 := Lib.hid (row_new w3 fun _ => 0)
                        have L5 := Lib.hid D3.out.bl.size
                        refine hK _ _ ⟨row_of _ _ _ D4.out.z, D4.out.c⟩ ?_
                        clear hK K
                        generalize w3.alloc (.cells (nat20 fun _ => 0) 58) = w4 at D4 Z5 Z4 ⊢
                        generalize w3.heap.size = g5 at Z5 L5 YY ⊢
                        have NN : Hid (g4 ≠ g5) := Lib.hid (show g4 ≠ g5 by have := YY.out; omega)
                        refine wpAnyH_all (rs := [8]) (by kernel_rfl) (by simp) ?_
                        refine AllHeld.cons rfl (fun K hK => ?_) ?_
                        · go_simp
                          refine (SS.out _).mono ?_
                          rintro e w5 ⟨rfl, hb5⟩
                          have D5 := Lib.hid (D4.out.keep hb5)
                          have Z4 := Lib.hid (row_kept Z4.out hb5)
                          have Z5 := Lib.hid (row_kept Z5.out hb5)
                          refine hK _ _ ⟨row_of _ _ _ D5.out.z, D5.out.c⟩ ?_
                          clear hK K hb5
                          refine wpAnyH_all (rs := [9]) (by kernel_rfl) (by simp) ?_
                          refine AllHeld.cons rfl (fun K hK => ?_) ?_
                          · go_simp
                            refine (OV.out _).mono ?_
                            rintro e w6 ⟨q, r, rfl, hqr, hb6⟩
                            have HQR := Lib.hid hqr
                            clear hqr
                            have D6 := Lib.hid (D5.out.keep hb6)
                            have Z4 := Lib.hid (row_kept Z4.out hb6)
                            have Z5 := Lib.hid (row_kept Z5.out hb6)
                            refine hK _ _ ⟨row_of _ _ _ D6.out.z, D6.out.c⟩ ?_
                            clear hK K hb6
                            refine wpAnyH_take (i := 10) (v := .tuple #[.agg (nat20 q), .agg (nat20 r)]) rfl (by kernel_rfl) (by kernel_rfl) (by kernel_rfl) (fun _ _ _ h => h) (Or.inl ⟨by rfl, fun _ _ => by go_simp⟩) ⟨row_of _ _ _ D6.out.z, D6.out.c⟩ ?_
                            refine wpAnyH_take (i := 11) (v := .agg (nat20 q)) rfl (by kernel_rfl) (by kernel_rfl) (by kernel_rfl) (fun _ _ _ h => h) (Or.inl ⟨by rfl, fun _ _ => by go_simp⟩) ⟨row_of _ _ _ D6.out.z, D6.out.c⟩ ?_
                            refine wpAnyH_take (i := 12) (v := .agg (nat20 r)) rfl (by kernel_rfl) (by kernel_rfl) (by kernel_rfl) (fun _ _ _ h => h) (Or.inl ⟨by rfl, fun _ _ => by go_simp⟩) ⟨row_of _ _ _ D6.out.z, D6.out.c⟩ ?_
                            refine wpAnyH_all (rs := [15]) (by kernel_rfl) (by simp) ?_
                            have T0 := Lib.hid (SplTwo.mk D6.out Z4.out Z5.out NN.out L4.out L5.out)
                            have gg := row_of _ _ _ T0.out.rq
                            refine held_store rfl rfl 58 _ _ rfl g4 _ rfl rfl 58 _ gg (by kernel_rfl) (by kernel_rfl) (by kernel_rfl) ⟨row_of _ _ _ (T0.out.set4 q).s.z, (T0.out.set4 q).s.c⟩ ?_ ?_
                            · have T1 := Lib.hid (T0.out.set4 q)
                              generalize w6.setRow g4 (nat20 q) = wy at T1 ⊢
                              clear gg
                              refine wpAnyH_all (rs := [16]) (by kernel_rfl) (by simp) ?_
                              have gg := row_of _ _ _ T1.out.rr
                              refine held_store rfl rfl 58 _ _ rfl g5 _ rfl rfl 58 _ gg (by kernel_rfl) (by kernel_rfl) (by kernel_rfl) ⟨row_of _ _ _ (T1.out.set5 r).s.z, (T1.out.set5 r).s.c⟩ ?_ ?_
                              · have T2 := Lib.hid (T1.out.set5 r)
                                generalize wy.setRow g5 (nat20 r) = wz at T2 ⊢
                                clear gg
                                refine wpAnyH_done (by kernel_rfl) ?_ _
                                go_wp2_with fail
                                go_meet
                                exact ⟨g4, g5, q, r, rfl, rfl, T2, HQR⟩
                              · exact AllHeld.nil
                            · exact AllHeld.nil
                          · exact AllHeld.nil
                        · exact AllHeld.nil
                      · exact AllHeld.nil
                  · refine AllHeld.cons rfl (fun K hK => ?_) ?_
                    · go_simp
                      rw [zeros20]
                      have YY := Lib.hid Z4.out.lt
                      have D3 := Lib.hid (D2.out.keep ((Below.refl _ _).alloc (Nat.le_refl _) (.cells (nat20 fun _ => 0) 58)))
                      have Z4 := Lib.hid (Z4.out.alloc (.cells (nat20 fun _ => 0) 58))
                      have Z5 := Lib.hid (row_new w2 fun _ => 0)
                      have L5 := Lib.hid D2.out.bl.size
                      refine hK _ _ ⟨row_of _ _ _ D3.out.z, D3.out.c⟩ ?_
                      clear hK K
                      generalize w2.alloc (.cells (nat20 fun _ => 0) 58) = w3 at D3 Z5 Z4 ⊢
                      generalize w2.heap.size = g5 at Z5 L5 YY ⊢
                      have NN : Hid (g4 ≠ g5) := Lib.hid (show g4 ≠ g5 by have := YY.out; omega)
                      refine wpAnyH_all (rs := [6]) (by kernel_rfl) (by simp) ?_
                      refine AllHeld.cons rfl (fun K hK => ?_) ?_
                      · go_simp
                        refine (TM.out _).mono ?_
                        rintro e w4 ⟨rfl, hb4⟩
                        have D4 := Lib.hid (D3.out.keep hb4)
                        have Z4 := Lib.hid (row_kept Z4.out hb4)
                        have Z5 := Lib.hid (row_kept Z5.out hb4)
                        refine hK _ _ ⟨row_of _ _ _ D4.out.z, D4.out.c⟩ ?_
                        clear hK K hb4
                        refine wpAnyH_all (rs := [8]) (by kernel_rfl) (by simp) ?_
                        refine AllHeld.cons rfl (fun K hK => ?_) ?_
                        · go_simp
                          refine (SS.out _).mono ?_
                          rintro e w5 ⟨rfl, hb5⟩
                          have D5 := Lib.hid (D4.out.keep hb5)
                          have Z4 := Lib.hid (row_kept Z4.out hb5)
                          have Z5 := Lib.hid (row_kept Z5.out hb5)
                          refine hK _ _ ⟨row_of _ _ _ D5.out.z, D5.out.c⟩ ?_
                          clear hK K hb5
                          refine wpAnyH_all (rs := [9]) (by kernel_rfl) (by simp) ?_
                          refine AllHeld.cons rfl (fun K hK => ?_) ?_
                          · go_simp
                            refine (OV.out _).mono ?_
                            rintro e w6 ⟨q, r, rfl, hqr, hb6⟩
                            have HQR := Lib.hid hqr
                            clear hqr
                            have D6 := Lib.hid (D5.out.keep hb6)
                            have Z4 := Lib.hid (row_kept Z4.out hb6)
                            have Z5 := Lib.hid (row_kept Z5.out hb6)
                            refine hK _ _ ⟨row_of _ _ _ D6.out.z, D6.out.c⟩ ?_
                            clear hK K hb6
                            refine wpAnyH_take (i := 10) (v := .tuple #[.agg (nat20 q), .agg (nat20 r)]) rfl (by kernel_rfl) (by kernel_rfl) (by kernel_rfl) (fun _ _ _ h => h) (Or.inl ⟨by rfl, fun _ _ => by go_simp⟩) ⟨row_of _ _ _ D6.out.z, D6.out.c⟩ ?_
                            refine wpAnyH_take (i := 11) (v := .agg (nat20 q)) rfl (by kernel_rfl) (by kernel_rfl) (by kernel_rfl) (fun _ _ _ h => h) (Or.inl ⟨by rfl, fun _ _ => by go_simp⟩) ⟨row_of _ _ _ D6.out.z, D6.out.c⟩ ?_
                            refine wpAnyH_take (i := 12) (v := .agg (nat20 r)) rfl (by kernel_rfl) (by kernel_rfl) (by kernel_rfl) (fun _ _ _ h => h) (Or.inl ⟨by rfl, fun _ _ => by go_simp⟩) ⟨row_of _ _ _ D6.out.z, D6.out.c⟩ ?_
                            refine wpAnyH_all (rs := [15]) (by kernel_rfl) (by simp) ?_
                            have T0 := Lib.hid (SplTwo.mk D6.out Z4.out Z5.out NN.out L4.out L5.out)
                            have gg := row_of _ _ _ T0.out.rq
                            refine held_store rfl rfl 58 _ _ rfl g4 _ rfl rfl 58 _ gg (by kernel_rfl) (by kernel_rfl) (by kernel_rfl) ⟨row_of _ _ _ (T0.out.set4 q).s.z, (T0.out.set4 q).s.c⟩ ?_ ?_
                            · have T1 := Lib.hid (T0.out.set4 q)
                              generalize w6.setRow g4 (nat20 q) = wy at T1 ⊢
                              clear gg
                              refine wpAnyH_all (rs := [16]) (by kernel_rfl) (by simp) ?_
                              have gg := row_of _ _ _ T1.out.rr
                              refine held_store rfl rfl 58 _ _ rfl g5 _ rfl rfl 58 _ gg (by kernel_rfl) (by kernel_rfl) (by kernel_rfl) ⟨row_of _ _ _ (T1.out.set5 r).s.z, (T1.out.set5 r).s.c⟩ ?_ ?_
                              · have T2 := Lib.hid (T1.out.set5 r)
                                generalize wy.setRow g5 (nat20 r) = wz at T2 ⊢
                                clear gg
                                refine wpAnyH_done (by kernel_rfl) ?_ _
                                go_wp2_with fail
                                go_meet
                                exact ⟨g4, g5, q, r, rfl, rfl, T2, HQR⟩
                              · exact AllHeld.nil
                            · exact AllHeld.nil
                          · exact AllHeld.nil
                        · exact AllHeld.nil
                      · exact AllHeld.nil
                    · exact AllHeld.nil
                · refine AllHeld.cons rfl (fun K hK => ?_) ?_
                  · go_simp
                    rw [zeros20]
                    have YY := Lib.hid Z4.out.lt
                    have D2 := Lib.hid (D1.out.keep ((Below.refl _ _).alloc (Nat.le_refl _) (.cells (nat20 fun _ => 0) 58)))
                    have Z4 := Lib.hid (Z4.out.alloc (.cells (nat20 fun _ => 0) 58))
                    have Z5 := Lib.hid (row_new w1 fun _ => 0)
                    have L5 := Lib.hid D1.out.bl.size
                    refine hK _ _ ⟨row_of _ _ _ D2.out.z, D2.out.c⟩ ?_
                    clear hK K
                    generalize w1.alloc (.cells (nat20 fun _ => 0) 58) = w2 at D2 Z5 Z4 ⊢
                    generalize w1.heap.size = g5 at Z5 L5 YY ⊢
                    have NN : Hid (g4 ≠ g5) := Lib.hid (show g4 ≠ g5 by have := YY.out; omega)
                    refine wpAnyH_all (rs := [5]) (by kernel_rfl) (by simp) ?_
                    refine AllHeld.cons rfl (fun K hK => ?_) ?_
                    · go_simp
                      refine (SX.out _).mono ?_
                      rintro e w3 ⟨rfl, hb3⟩
                      have D3 := Lib.hid (D2.out.keep hb3)
                      have Z4 := Lib.hid (row_kept Z4.out hb3)
                      have Z5 := Lib.hid (row_kept Z5.out hb3)
                      refine hK _ _ ⟨row_of _ _ _ D3.out.z, D3.out.c⟩ ?_
                      clear hK K hb3
                      refine wpAnyH_all (rs := [6]) (by kernel_rfl) (by simp) ?_
                      refine AllHeld.cons rfl (fun K hK => ?_) ?_
                      · go_simp
                        refine (TM.out _).mono ?_
                        rintro e w4 ⟨rfl, hb4⟩
                        have D4 := Lib.hid (D3.out.keep hb4)
                        have Z4 := Lib.hid (row_kept Z4.out hb4)
                        have Z5 := Lib.hid (row_kept Z5.out hb4)
                        refine hK _ _ ⟨row_of _ _ _ D4.out.z, D4.out.c⟩ ?_
                        clear hK K hb4
                        refine wpAnyH_all (rs := [8]) (by kernel_rfl) (by simp) ?_
                        refine AllHeld.cons rfl (fun K hK => ?_) ?_
                        · go_simp
                          refine (SS.out _).mono ?_
                          rintro e w5 ⟨rfl, hb5⟩
                          have D5 := Lib.hid (D4.out.keep hb5)
                          have Z4 := Lib.hid (row_kept Z4.out hb5)
                          have Z5 := Lib.hid (row_kept Z5.out hb5)
                          refine hK _ _ ⟨row_of _ _ _ D5.out.z, D5.out.c⟩ ?_
                          clear hK K hb5
                          refine wpAnyH_all (rs := [9]) (by kernel_rfl) (by simp) ?_
                          refine AllHeld.cons rfl (fun K hK => ?_) ?_
                          · go_simp
                            refine (OV.out _).mono ?_
                            rintro e w6 ⟨q, r, rfl, hqr, hb6⟩
                            have HQR := Lib.hid hqr
                            clear hqr
                            have D6 := Lib.hid (D5.out.keep hb6)
                            have Z4 := Lib.hid (row_kept Z4.out hb6)
                            have Z5 := Lib.hid (row_kept Z5.out hb6)
                            refine hK _ _ ⟨row_of _ _ _ D6.out.z, D6.out.c⟩ ?_
                            clear hK K hb6
                            refine wpAnyH_take (i := 10) (v := .tuple #[.agg (nat20 q), .agg (nat20 r)]) rfl (by kernel_rfl) (by kernel_rfl) (by kernel_rfl) (fun _ _ _ h => h) (Or.inl ⟨by rfl, fun _ _ => by go_simp⟩) ⟨row_of _ _ _ D6.out.z, D6.out.c⟩ ?_
                            refine wpAnyH_take (i := 11) (v := .agg (nat20 q)) rfl (by kernel_rfl) (by kernel_rfl) (by kernel_rfl) (fun _ _ _ h => h) (Or.inl ⟨by rfl, fun _ _ => by go_simp⟩) ⟨row_of _ _ _ D6.out.z, D6.out.c⟩ ?_
                            refine wpAnyH_take (i := 12) (v := .agg (nat20 r)) rfl (by kernel_rfl) (by kernel_rfl) (by kernel_rfl) (fun _ _ _ h => h) (Or.inl ⟨by rfl, fun _ _ => by go_simp⟩) ⟨row_of _ _ _ D6.out.z, D6.out.c⟩ ?_
                            refine wpAnyH_all (rs := [15]) (by kernel_rfl) (by simp) ?_
                            have T0 := Lib.hid (SplTwo.mk D6.out Z4.out Z5.out NN.out L4.out L5.out)
                            have gg := row_of _ _ _ T0.out.rq
                            refine held_store rfl rfl 58 _ _ rfl g4 _ rfl rfl 58 _ gg (by kernel_rfl) (by kernel_rfl) (by kernel_rfl) ⟨row_of _ _ _ (T0.out.set4 q).s.z, (T0.out.set4 q).s.c⟩ ?_ ?_
                            · have T1 := Lib.hid (T0.out.set4 q)
                              generalize w6.setRow g4 (nat20 q) = wy at T1 ⊢
                              clear gg
                              refine wpAnyH_all (rs := [16]) (by kernel_rfl) (by simp) ?_
                              have gg := row_of _ _ _ T1.out.rr
                              refine held_store rfl rfl 58 _ _ rfl g5 _ rfl rfl 58 _ gg (by kernel_rfl) (by kernel_rfl) (by kernel_rfl) ⟨row_of _ _ _ (T1.out.set5 r).s.z, (T1.out.set5 r).s.c⟩ ?_ ?_
                              · have T2 := Lib.hid (T1.out.set5 r)
                                generalize wy.setRow g5 (nat20 r) = wz at T2 ⊢
                                clear gg
                                refine wpAnyH_done (by kernel_rfl) ?_ _
                                go_wp2_with fail
                                go_meet
                                exact ⟨g4, g5, q, r, rfl, rfl, T2, HQR⟩
                              · exact AllHeld.nil
                            · exact AllHeld.nil
                          · exact AllHeld.nil
                        · exact AllHeld.nil
                      · exact AllHeld.nil
                    · exact AllHeld.nil
                  · exact AllHeld.nil
              · refine AllHeld.cons rfl (fun K hK => ?_) ?_
                · go_simp
                  rw [zeros20]
                  have D1 := Lib.hid (D0.out.keep ((Below.refl _ _).alloc (Nat.le_refl _) (.cells (nat20 fun _ => 0) 58)))
                  have Z5 := Lib.hid (row_new w0 fun _ => 0)
                  have L5 := Lib.hid D0.out.bl.size
                  refine hK _ _ ⟨row_of _ _ _ D1.out.z, D1.out.c⟩ ?_
                  clear hK K
                  generalize w0.alloc (.cells (nat20 fun _ => 0) 58) = w1 at D1 Z5 ⊢
                  generalize w0.heap.size = g5 at Z5 L5 ⊢
                  refine wpAnyH_all (rs := [5, 13]) (by kernel_rfl) (by simp) ?_
                  refine AllHeld.cons rfl (fun K hK => ?_) ?_
                  · go_simp
                    refine (SX.out _).mono ?_
                    rintro e w2 ⟨rfl, hb2⟩
                    have D2 := Lib.hid (D1.out.keep hb2)
                    have Z5 := Lib.hid (row_kept Z5.out hb2)
                    refine hK _ _ ⟨row_of _ _ _ D2.out.z, D2.out.c⟩ ?_
                    clear hK K hb2
                    refine wpAnyH_all (rs := [6, 13]) (by kernel_rfl) (by simp) ?_
                    refine AllHeld.cons rfl (fun K hK => ?_) ?_
                    · go_simp
                      refine (TM.out _).mono ?_
                      rintro e w3 ⟨rfl, hb3⟩
                      have D3 := Lib.hid (D2.out.keep hb3)
                      have Z5 := Lib.hid (row_kept Z5.out hb3)
                      refine hK _ _ ⟨row_of _ _ _ D3.out.z, D3.out.c⟩ ?_
                      clear hK K hb3
                      refine wpAnyH_all (rs := [8, 13]) (by kernel_rfl) (by simp) ?_
                      refine AllHeld.cons rfl (fun K hK => ?_) ?_
                      · go_simp
                        refine (SS.out _).mono ?_
                        rintro e w4 ⟨rfl, hb4⟩
                        have D4 := Lib.hid (D3.out.keep hb4)
                        have Z5 := Lib.hid (row_kept Z5.out hb4)
                        refine hK _ _ ⟨row_of _ _ _ D4.out.z, D4.out.c⟩ ?_
                        clear hK K hb4
                        refine wpAnyH_all (rs := [9, 13]) (by kernel_rfl) (by simp) ?_
                        refine AllHeld.cons rfl (fun K hK => ?_) ?_
                        · go_simp
                          refine (OV.out _).mono ?_
                          rintro e w5 ⟨q, r, rfl, hqr, hb5⟩
                          have HQR := Lib.hid hqr
                          clear hqr
                          have D5 := Lib.hid (D4.out.keep hb5)
                          have Z5 := Lib.hid (row_kept Z5.out hb5)
                          refine hK _ _ ⟨row_of _ _ _ D5.out.z, D5.out.c⟩ ?_
                          clear hK K hb5
                          refine wpAnyH_take (i := 10) (v := .tuple #[.agg (nat20 q), .agg (nat20 r)]) rfl (by kernel_rfl) (by kernel_rfl) (by kernel_rfl) (fun _ _ _ h => h) (Or.inl ⟨by rfl, fun _ _ => by go_simp⟩) ⟨row_of _ _ _ D5.out.z, D5.out.c⟩ ?_
                          refine wpAnyH_take (i := 11) (v := .agg (nat20 q)) rfl (by kernel_rfl) (by kernel_rfl) (by kernel_rfl) (fun _ _ _ h => h) (Or.inl ⟨by rfl, fun _ _ => by go_simp⟩) ⟨row_of _ _ _ D5.out.z, D5.out.c⟩ ?_
                          refine wpAnyH_take (i := 12) (v := .agg (nat20 r)) rfl (by kernel_rfl) (by kernel_rfl) (by kernel_rfl) (fun _ _ _ h => h) (Or.inl ⟨by rfl, fun _ _ => by go_simp⟩) ⟨row_of _ _ _ D5.out.z, D5.out.c⟩ ?_
                          refine wpAnyH_all (rs := [13]) (by kernel_rfl) (by simp) ?_
                          refine AllHeld.cons rfl (fun K hK => ?_) ?_
                          · go_simp
                            rw [zeros20]
                            have YY := Lib.hid Z5.out.lt
                            have D6 := Lib.hid (D5.out.keep ((Below.refl _ _).alloc (Nat.le_refl _) (.cells (nat20 fun _ => 0) 58)))
                            have Z5 := Lib.hid (Z5.out.alloc (.cells (nat20 fun _ => 0) 58))
                            have Z4 := Lib.hid (row_new w5 fun _ => 0)
                            have L4 := Lib.hid D5.out.bl.size
                            refine hK _ _ ⟨row_of _ _ _ D6.out.z, D6.out.c⟩ ?_
                            clear hK K
                            generalize w5.alloc (.cells (nat20 fun _ => 0) 58) = w6 at D6 Z4 Z5 ⊢
                            generalize w5.heap.size = g4 at Z4 L4 YY ⊢
                            have NN : Hid (g4 ≠ g5) := Lib.hid (show g4 ≠ g5 by have := YY.out; omega)
                            refine wpAnyH_all (rs := [15]) (by kernel_rfl) (by simp) ?_
                            have T0 := Lib.hid (SplTwo.mk D6.out Z4.out Z5.out NN.out L4.out L5.out)
                            have gg := row_of _ _ _ T0.out.rq
                            refine held_store rfl rfl 58 _ _ rfl g4 _ rfl rfl 58 _ gg (by kernel_rfl) (by kernel_rfl) (by kernel_rfl) ⟨row_of _ _ _ (T0.out.set4 q).s.z, (T0.out.set4 q).s.c⟩ ?_ ?_
                            · have T1 := Lib.hid (T0.out.set4 q)
                              generalize w6.setRow g4 (nat20 q) = wy at T1 ⊢
                              clear gg
                              refine wpAnyH_all (rs := [16]) (by kernel_rfl) (by simp) ?_
                              have gg := row_of _ _ _ T1.out.rr
                              refine held_store rfl rfl 58 _ _ rfl g5 _ rfl rfl 58 _ gg (by kernel_rfl) (by kernel_rfl) (by kernel_rfl) ⟨row_of _ _ _ (T1.out.set5 r).s.z, (T1.out.set5 r).s.c⟩ ?_ ?_
                              · have T2 := Lib.hid (T1.out.set5 r)
                                generalize wy.setRow g5 (nat20 r) = wz at T2 ⊢
                                clear gg
                                refine wpAnyH_done (by kernel_rfl) ?_ _
                                go_wp2_with fail
                                go_meet
                                exact ⟨g4, g5, q, r, rfl, rfl, T2, HQR⟩
                              · exact AllHeld.nil
                            · exact AllHeld.nil
                          · exact AllHeld.nil
                        · refine AllHeld.cons rfl (fun K hK => ?_) ?_
                          · go_simp
                            rw [zeros20]
                            have YY := Lib.hid Z5.out.lt
                            have D5 := Lib.hid (D4.out.keep ((Below.refl _ _).alloc (Nat.le_refl _) (.cells (nat20 fun _ => 0) 58)))
                            have Z5 := Lib.hid (Z5.out.alloc (.cells (nat20 fun _ => 0) 58))
                            have Z4 := Lib.hid (row_new w4 fun _ => 0)
                            have L4 := Lib.hid D4.out.bl.size
                            refine hK _ _ ⟨row_of _ _ _ D5.out.z, D5.out.c⟩ ?_
                            clear hK K
                            generalize w4.alloc (.cells (nat20 fun _ => 0) 58) = w5 at D5 Z4 Z5 ⊢
                            generalize w4.heap.size = g4 at Z4 L4 YY ⊢
                            have NN : Hid (g4 ≠ g5) := Lib.hid (show g4 ≠ g5 by have := YY.out; omega)
                            refine wpAnyH_all (rs := [9]) (by kernel_rfl) (by simp) ?_
                            refine AllHeld.cons rfl (fun K hK => ?_) ?_
                            · go_simp
                              refine (OV.out _).mono ?_
                              rintro e w6 ⟨q, r, rfl, hqr, hb6⟩
                              have HQR := Lib.hid hqr
                              clear hqr
                              have D6 := Lib.hid (D5.out.keep hb6)
                              have Z4 := Lib.hid (row_kept Z4.out hb6)
                              have Z5 := Lib.hid (row_kept Z5.out hb6)
                              refine hK _ _ ⟨row_of _ _ _ D6.out.z, D6.out.c⟩ ?_
                              clear hK K hb6
                              refine wpAnyH_take (i := 10) (v := .tuple #[.agg (nat20 q), .agg (nat20 r)]) rfl (by kernel_rfl) (by kernel_rfl) (by kernel_rfl) (fun _ _ _ h => h) (Or.inl ⟨by rfl, fun _ _ => by go_simp⟩) ⟨row_of _ _ _ D6.out.z, D6.out.c⟩ ?_
                              refine wpAnyH_take (i := 11) (v := .agg (nat20 q)) rfl (by kernel_rfl) (by kernel_rfl) (by kernel_rfl) (fun _ _ _ h => h) (Or.inl ⟨by rfl, fun _ _ => by go_simp⟩) ⟨row_of _ _ _ D6.out.z, D6.out.c⟩ ?_
                              refine wpAnyH_take (i := 12) (v := .agg (nat20 r)) rfl (by kernel_rfl) (by kernel_rfl) (by kernel_rfl) (fun _ _ _ h => h) (Or.inl ⟨by rfl, fun _ _ => by go_simp⟩) ⟨row_of _ _ _ D6.out.z, D6.out.c⟩ ?_
                              refine wpAnyH_all (rs := [15]) (by kernel_rfl) (by simp) ?_
                              have T0 := Lib.hid (SplTwo.mk D6.out Z4.out Z5.out NN.out L4.out L5.out)
                              have gg := row_of _ _ _ T0.out.rq
                              refine held_store rfl rfl 58 _ _ rfl g4 _ rfl rfl 58 _ gg (by kernel_rfl) (by kernel_rfl) (by kernel_rfl) ⟨row_of _ _ _ (T0.out.set4 q).s.z, (T0.out.set4 q).s.c⟩ ?_ ?_
                              · have T1 := Lib.hid (T0.out.set4 q)
                                generalize w6.setRow g4 (nat20 q) = wy at T1 ⊢
                                clear gg
                                refine wpAnyH_all (rs := [16]) (by kernel_rfl) (by simp) ?_
                                have gg := row_of _ _ _ T1.out.rr
                                refine held_store rfl rfl 58 _ _ rfl g5 _ rfl rfl 58 _ gg (by kernel_rfl) (by kernel_rfl) (by kernel_rfl) ⟨row_of _ _ _ (T1.out.set5 r).s.z, (T1.out.set5 r).s.c⟩ ?_ ?_
                                · have T2 := Lib.hid (T1.out.set5 r)
                                  generalize wy.setRow g5 (nat20 r) = wz at T2 ⊢
                                  clear gg
                                  refine wpAnyH_done (by kernel_rfl) ?_ _
                                  go_wp2_with fail
                                  go_meet
                                  exact ⟨g4, g5, q, r, rfl, rfl, T2, HQR⟩
                                · exact AllHeld.nil
                              · exact AllHeld.nil
                            · exact AllHeld.nil
                          · exact AllHeld.nil
                      · refine AllHeld.cons rfl (fun K hK => ?_) ?_
                        · go_simp
                          rw [zeros20]
                          have YY := Lib.hid Z5.out.lt
                          have D4 := Lib.hid (D3.out.keep ((Below.refl _ _).alloc (Nat.le_refl _) (.cells (nat20 fun _ => 0) 58)))
                          have Z5 := Lib.hid (Z5.out.alloc (.cells (nat20 fun _ => 0) 58))
                          have Z4 := Lib.hid (row_new w3 fun _ => 0)
                          have L4 := Lib.hid D3.out.bl.size
                          refine hK _ _ ⟨row_of _ _ _ D4.out.z, D4.out.c⟩ ?_
                          clear hK K
                          generalize w3.alloc (.cells (nat20 fun _ => 0) 58) = w4 at D4 Z4 Z5 ⊢
                          generalize w3.heap.size = g4 at Z4 L4 YY ⊢
                          have NN : Hid (g4 ≠ g5) := Lib.hid (show g4 ≠ g5 by have := YY.out; omega)
                          refine wpAnyH_all (rs := [8]) (by kernel_rfl) (by simp) ?_
                          refine AllHeld.cons rfl (fun K hK => ?_) ?_
                          · go_simp
                            refine (SS.out _).mono ?_
                            rintro e w5 ⟨rfl, hb5⟩
                            have D5 := Lib.hid (D4.out.keep hb5)
                            have Z4 := Lib.hid (row_kept Z4.out hb5)
                            have Z5 := Lib.hid (row_kept Z5.out hb5)
                            refine hK _ _ ⟨row_of _ _ _ D5.out.z, D5.out.c⟩ ?_
                            clear hK K hb5
                            refine wpAnyH_all (rs := [9]) (by kernel_rfl) (by simp) ?_
                            refine AllHeld.cons rfl (fun K hK => ?_) ?_
                            · go_simp
                              refine (OV.out _).mono ?_
                              rintro e w6 ⟨q, r, rfl, hqr, hb6⟩
                              have HQR := Lib.hid hqr
                              clear hqr
                              have D6 := Lib.hid (D5.out.keep hb6)
                              have Z4 := Lib.hid (row_kept Z4.out hb6)
                              have Z5 := Lib.hid (row_kept Z5.out hb6)
                              refine hK _ _ ⟨row_of _ _ _ D6.out.z, D6.out.c⟩ ?_
                              clear hK K hb6
                              refine wpAnyH_take (i := 10) (v := .tuple #[.agg (nat20 q), .agg (nat20 r)]) rfl (by kernel_rfl) (by kernel_rfl) (by kernel_rfl) (fun _ _ _ h => h) (Or.inl ⟨by rfl, fun _ _ => by go_simp⟩) ⟨row_of _ _ _ D6.out.z, D6.out.c⟩ ?_
                              refine wpAnyH_take (i := 11) (v := .agg (nat20 q)) rfl (by kernel_rfl) (by kernel_rfl) (by kernel_rfl) (fun _ _ _ h => h) (Or.inl ⟨by rfl, fun _ _ => by go_simp⟩) ⟨row_of _ _ _ D6.out.z, D6.out.c⟩ ?_
                              refine wpAnyH_take (i := 12) (v := .agg (nat20 r)) rfl (by kernel_rfl) (by kernel_rfl) (by kernel_rfl) (fun _ _ _ h => h) (Or.inl ⟨by rfl, fun _ _ => by go_simp⟩) ⟨row_of _ _ _ D6.out.z, D6.out.c⟩ ?_
                              refine wpAnyH_all (rs := [15]) (by kernel_rfl) (by simp) ?_
                              have T0 := Lib.hid (SplTwo.mk D6.out Z4.out Z5.out NN.out L4.out L5.out)
                              have gg := row_of _ _ _ T0.out.rq
                              refine held_store rfl rfl 58 _ _ rfl g4 _ rfl rfl 58 _ gg (by kernel_rfl) (by kernel_rfl) (by kernel_rfl) ⟨row_of _ _ _ (T0.out.set4 q).s.z, (T0.out.set4 q).s.c⟩ ?_ ?_
                              · have T1 := Lib.hid (T0.out.set4 q)
                                generalize w6.setRow g4 (nat20 q) = wy at T1 ⊢
                                clear gg
                                refine wpAnyH_all (rs := [16]) (by kernel_rfl) (by simp) ?_
                                have gg := row_of _ _ _ T1.out.rr
                                refine held_store rfl rfl 58 _ _ rfl g5 _ rfl rfl 58 _ gg (by kernel_rfl) (by kernel_rfl) (by kernel_rfl) ⟨row_of _ _ _ (T1.out.set5 r).s.z, (T1.out.set5 r).s.c⟩ ?_ ?_
                                · have T2 := Lib.hid (T1.out.set5 r)
                                  generalize wy.setRow g5 (nat20 r) = wz at T2 ⊢
                                  clear gg
                                  refine wpAnyH_done (by kernel_rfl) ?_ _
                                  go_wp2_with fail
                                  go_meet
                                  exact ⟨g4, g5, q, r, rfl, rfl, T2, HQR⟩
                                · exact AllHeld.nil
                              · exact AllHeld.nil
                            · exact AllHeld.nil
                          · exact AllHeld.nil
                        · exact AllHeld.nil
                    · refine AllHeld.cons rfl (fun K hK => ?_) ?_
                      · go_simp
                        rw [zeros20]
                        have YY := Lib.hid Z5.out.lt
                        have D3 := Lib.hid (D2.out.keep ((Below.refl _ _).alloc (Nat.le_refl _) (.cells (nat20 fun _ => 0) 58)))
                        have Z5 := Lib.hid (Z5.out.alloc (.cells (nat20 fun _ => 0) 58))
                        have Z4 := Lib.hid (row_new w2 fun _ => 0)
                        have L4 := Lib.hid D2.out.bl.size
                        refine hK _ _ ⟨row_of _ _ _ D3.out.z, D3.out.c⟩ ?_
                        clear hK K
                        generalize w2.alloc (.cells (nat20 fun _ => 0) 58) = w3 at D3 Z4 Z5 ⊢
                        generalize w2.heap.size = g4 at Z4 L4 YY ⊢
                        have NN : Hid (g4 ≠ g5) := Lib.hid (show g4 ≠ g5 by have := YY.out; omega)
                        refine wpAnyH_all (rs := [6]) (by kernel_rfl) (by simp) ?_
                        refine AllHeld.cons rfl (fun K hK => ?_) ?_
                        · go_simp
                          refine (TM.out _).mono ?_
                          rintro e w4 ⟨rfl, hb4⟩
                          have D4 := Lib.hid (D3.out.keep hb4)
                          have Z4 := Lib.hid (row_kept Z4.out hb4)
                          have Z5 := Lib.hid (row_kept Z5.out hb4)
                          refine hK _ _ ⟨row_of _ _ _ D4.out.z, D4.out.c⟩ ?_
                          clear hK K hb4
                          refine wpAnyH_all (rs := [8]) (by kernel_rfl) (by simp) ?_
                          refine AllHeld.cons rfl (fun K hK => ?_) ?_
                          · go_simp
                            refine (SS.out _).mono ?_
                            rintro e w5 ⟨rfl, hb5⟩
                            have D5 := Lib.hid (D4.out.keep hb5)
                            have Z4 := Lib.hid (row_kept Z4.out hb5)
                            have Z5 := Lib.hid (row_kept Z5.out hb5)
                            refine hK _ _ ⟨row_of _ _ _ D5.out.z, D5.out.c⟩ ?_
                            clear hK K hb5
                            refine wpAnyH_all (rs := [9]) (by kernel_rfl) (by simp) ?_
                            refine AllHeld.cons rfl (fun K hK => ?_) ?_
                            · go_simp
                              refine (OV.out _).mono ?_
                              rintro e w6 ⟨q, r, rfl, hqr, hb6⟩
                              have HQR := Lib.hid hqr
                              clear hqr
                              have D6 := Lib.hid (D5.out.keep hb6)
                              have Z4 := Lib.hid (row_kept Z4.out hb6)
                              have Z5 := Lib.hid (row_kept Z5.out hb6)
                              refine hK _ _ ⟨row_of _ _ _ D6.out.z, D6.out.c⟩ ?_
                              clear hK K hb6
                              refine wpAnyH_take (i := 10) (v := .tuple #[.agg (nat20 q), .agg (nat20 r)]) rfl (by kernel_rfl) (by kernel_rfl) (by kernel_rfl) (fun _ _ _ h => h) (Or.inl ⟨by rfl, fun _ _ => by go_simp⟩) ⟨row_of _ _ _ D6.out.z, D6.out.c⟩ ?_
                              refine wpAnyH_take (i := 11) (v := .agg (nat20 q)) rfl (by kernel_rfl) (by kernel_rfl) (by kernel_rfl) (fun _ _ _ h => h) (Or.inl ⟨by rfl, fun _ _ => by go_simp⟩) ⟨row_of _ _ _ D6.out.z, D6.out.c⟩ ?_
                              refine wpAnyH_take (i := 12) (v := .agg (nat20 r)) rfl (by kernel_rfl) (by kernel_rfl) (by kernel_rfl) (fun _ _ _ h => h) (Or.inl ⟨by rfl, fun _ _ => by go_simp⟩) ⟨row_of _ _ _ D6.out.z, D6.out.c⟩ ?_
                              refine wpAnyH_all (rs := [15]) (by kernel_rfl) (by simp) ?_
                              have T0 := Lib.hid (SplTwo.mk D6.out Z4.out Z5.out NN.out L4.out L5.out)
                              have gg := row_of _ _ _ T0.out.rq
                              refine held_store rfl rfl 58 _ _ rfl g4 _ rfl rfl 58 _ gg (by kernel_rfl) (by kernel_rfl) (by kernel_rfl) ⟨row_of _ _ _ (T0.out.set4 q).s.z, (T0.out.set4 q).s.c⟩ ?_ ?_
                              · have T1 := Lib.hid (T0.out.set4 q)
                                generalize w6.setRow g4 (nat20 q) = wy at T1 ⊢
                                clear gg
                                refine wpAnyH_all (rs := [16]) (by kernel_rfl) (by simp) ?_
                                have gg := row_of _ _ _ T1.out.rr
                                refine held_store rfl rfl 58 _ _ rfl g5 _ rfl rfl 58 _ gg (by kernel_rfl) (by kernel_rfl) (by kernel_rfl) ⟨row_of _ _ _ (T1.out.set5 r).s.z, (T1.out.set5 r).s.c⟩ ?_ ?_
                                · have T2 := Lib.hid (T1.out.set5 r)
                                  generalize wy.setRow g5 (nat20 r) = wz at T2 ⊢
                                  clear gg
                                  refine wpAnyH_done (by kernel_rfl) ?_ _
                                  go_wp2_with fail
                                  go_meet
                                  exact ⟨g4, g5, q, r, rfl, rfl, T2, HQR⟩
                                · exact AllHeld.nil
                              · exact AllHeld.nil
                            · exact AllHeld.nil
                          · exact AllHeld.nil
                        · exact AllHeld.nil
                      · exact AllHeld.nil
                  · refine AllHeld.cons rfl (fun K hK => ?_) ?_
                    · go_simp
                      rw [zeros20]
                      have YY := Lib.hid Z5.out.lt
                      have D2 := Lib.hid (D1.out.keep ((Below.refl _ _).alloc (Nat.le_refl _) (.cells (nat20 fun _ => 0) 58)))
                      have Z5 := Lib.hid (Z5.out.alloc (.cells (nat20 fun _ => 0) 58))
                      have Z4 := Lib.hid (row_new w1 fun _ => 0)
                      have L4 := Lib.hid D1.out.bl.size
                      refine hK _ _ ⟨row_of _ _ _ D2.out.z, D2.out.c⟩ ?_
                      clear hK K
                      generalize w1.alloc (.cells (nat20 fun _ => 0) 58) = w2 at D2 Z4 Z5 ⊢
                      generalize w1.heap.size = g4 at Z4 L4 YY ⊢
                      have NN : Hid (g4 ≠ g5) := Lib.hid (show g4 ≠ g5 by have := YY.out; omega)
                      refine wpAnyH_all (rs := [5]) (by kernel_rfl) (by simp) ?_
                      refine AllHeld.cons rfl (fun K hK => ?_) ?_
                      · go_simp
                        refine (SX.out _).mono ?_
                        rintro e w3 ⟨rfl, hb3⟩
                        have D3 := Lib.hid (D2.out.keep hb3)
                        have Z4 := Lib.hid (row_kept Z4.out hb3)
                        have Z5 := Lib.hid (row_kept Z5.out hb3)
                        refine hK _ _ ⟨row_of _ _ _ D3.out.z, D3.out.c⟩ ?_
                        clear hK K hb3
                        refine wpAnyH_all (rs := [6]) (by kernel_rfl) (by simp) ?_
                        refine AllHeld.cons rfl (fun K hK => ?_) ?_
                        · go_simp
                          refine (TM.out _).mono ?_
                          rintro e w4 ⟨rfl, hb4⟩
                          have D4 := Lib.hid (D3.out.keep hb4)
                          have Z4 := Lib.hid (row_kept Z4.out hb4)
                          have Z5 := Lib.hid (row_kept Z5.out hb4)
                          refine hK _ _ ⟨row_of _ _ _ D4.out.z, D4.out.c⟩ ?_
                          clear hK K hb4
                          refine wpAnyH_all (rs := [8]) (by kernel_rfl) (by simp) ?_
                          refine AllHeld.cons rfl (fun K hK => ?_) ?_
                          · go_simp
                            refine (SS.out _).mono ?_
                            rintro e w5 ⟨rfl, hb5⟩
                            have D5 := Lib.hid (D4.out.keep hb5)
                            have Z4 := Lib.hid (row_kept Z4.out hb5)
                            have Z5 := Lib.hid (row_kept Z5.out hb5)
                            refine hK _ _ ⟨row_of _ _ _ D5.out.z, D5.out.c⟩ ?_
                            clear hK K hb5
                            refine wpAnyH_all (rs := [9]) (by kernel_rfl) (by simp) ?_
                            refine AllHeld.cons rfl (fun K hK => ?_) ?_
                            · go_simp
                              refine (OV.out _).mono ?_
                              rintro e w6 ⟨q, r, rfl, hqr, hb6⟩
                              have HQR := Lib.hid hqr
                              clear hqr
                              have D6 := Lib.hid (D5.out.keep hb6)
                              have Z4 := Lib.hid (row_kept Z4.out hb6)
                              have Z5 := Lib.hid (row_kept Z5.out hb6)
                              refine hK _ _ ⟨row_of _ _ _ D6.out.z, D6.out.c⟩ ?_
                              clear hK K hb6
                              refine wpAnyH_take (i := 10) (v := .tuple #[.agg (nat20 q), .agg (nat20 r)]) rfl (by kernel_rfl) (by kernel_rfl) (by kernel_rfl) (fun _ _ _ h => h) (Or.inl ⟨by rfl, fun _ _ => by go_simp⟩) ⟨row_of _ _ _ D6.out.z, D6.out.c⟩ ?_
                              refine wpAnyH_take (i := 11) (v := .agg (nat20 q)) rfl (by kernel_rfl) (by kernel_rfl) (by kernel_rfl) (fun _ _ _ h => h) (Or.inl ⟨by rfl, fun _ _ => by go_simp⟩) ⟨row_of _ _ _ D6.out.z, D6.out.c⟩ ?_
                              refine wpAnyH_take (i := 12) (v := .agg (nat20 r)) rfl (by kernel_rfl) (by kernel_rfl) (by kernel_rfl) (fun _ _ _ h => h) (Or.inl ⟨by rfl, fun _ _ => by go_simp⟩) ⟨row_of _ _ _ D6.out.z, D6.out.c⟩ ?_
                              refine wpAnyH_all (rs := [15]) (by kernel_rfl) (by simp) ?_
                              have T0 := Lib.hid (SplTwo.mk D6.out Z4.out Z5.out NN.out L4.out L5.out)
                              have gg := row_of _ _ _ T0.out.rq
                              refine held_store rfl rfl 58 _ _ rfl g4 _ rfl rfl 58 _ gg (by kernel_rfl) (by kernel_rfl) (by kernel_rfl) ⟨row_of _ _ _ (T0.out.set4 q).s.z, (T0.out.set4 q).s.c⟩ ?_ ?_
                              · have T1 := Lib.hid (T0.out.set4 q)
                                generalize w6.setRow g4 (nat20 q) = wy at T1 ⊢
                                clear gg
                                refine wpAnyH_all (rs := [16]) (by kernel_rfl) (by simp) ?_
                                have gg := row_of _ _ _ T1.out.rr
                                refine held_store rfl rfl 58 _ _ rfl g5 _ rfl rfl 58 _ gg (by kernel_rfl) (by kernel_rfl) (by kernel_rfl) ⟨row_of _ _ _ (T1.out.set5 r).s.z, (T1.out.set5 r).s.c⟩ ?_ ?_
                                · have T2 := Lib.hid (T1.out.set5 r)
                                  generalize wy.setRow g5 (nat20 r) = wz at T2 ⊢
                                  clear gg
                                  refine wpAnyH_done (by kernel_rfl) ?_ _
                                  go_wp2_with fail
                                  go_meet
                                  exact ⟨g4, g5, q, r, rfl, rfl, T2, HQR⟩
                                · exact AllHeld.nil
                              · exact AllHeld.nil
                            · exact AllHeld.nil
                          · exact AllHeld.nil
                        · exact AllHeld.nil
                      · exact AllHeld.nil
                    · exact AllHeld.nil
                · exact AllHeld.nil
          case rest =>
            obtain ⟨g4, g5, q, r, rfl, rfl, HT, HQR⟩ := hcut
            have l1 := hSP.out.s.lt
            have l2 := hSP.out.r.lt
            have q4 := HT.out.h4
            have q5 := HT.out.h5
            have S2 : Hid (Sp2 w wc gz g1 g2 k g4 g5 sz (upTo (part sz S wt) j) (upTo (over sz S wt) j) q r) := Lib.hid ⟨hSP.out.keep HT.out.s.bl, HT.out.rq, HT.out.rr, by omega, by omega, by omega, by omega⟩
            have gq := row_of _ _ _ S2.out.rq
            have VQ := HQR.out.2.2.1
            have VR := HQR.out.2.2.2
            have IQ := HQR.out.1
            have IR := HQR.out.2.1
            have BQ := Lib.hid (fun w => backP q (sz * x / S) w IQ VQ pb0 (by have := EP.out; omega))
            have BR := Lib.hid (fun w => backP r (sz * x % S) w IR VR pb2 (by omega))
            obtain ⟨P, hP⟩ : ∃ P, sz * x / S = P := ⟨_, rfl⟩
            obtain ⟨O, hO⟩ : ∃ O, sz * x % S = O := ⟨_, rfl⟩
            rw [hP] at BQ EP pb0 pb1
            rw [hO] at BR EO pb2 pb3
            rw [EP.out] at p2
            have ji := hji
            clear HT l1 l2 q4 q5 HQR VQ VR IQ IR hP hO DW SX SS TM OV hSP SP0 cw0 lz lb
            go_upto_region 22 with (first | (with_reducible refine wpList_load_row rfl 58 _ rfl g4 rfl 58 _ (0, 0) _ gq Tryd.underlying58 rfl (by kernel_rfl) ?_) | (go_at_call 32; refine (BQ.out _).mono ?_; rintro e w5 ⟨rfl, hb5⟩; have S3 := Lib.hid (S2.out.keep hb5); have c1 := S3.out.sp.s.cell (i := j) hlt; have f1 := S3.out.sp.s.frozen j))
            have S4 := Lib.hid (S3.out.setS j P)
            clear S2 S3 c1 f1 gq hb5
            generalize w5.setCell ⟨g1, j, none⟩ (.int .i64 P) = w6 at S4 ⊢
            have gr := row_of _ _ _ S4.out.rr
            go_upto_region 23 with (first | (with_reducible refine wpList_load_row rfl 58 _ rfl g5 rfl 58 _ (0, 0) _ gr Tryd.underlying58 rfl (by kernel_rfl) ?_) | (go_at_call 32; refine (BR.out _).mono ?_; rintro e w7 ⟨rfl, hb7⟩; have S5 := Lib.hid (S4.out.keep hb7); have c2 := S5.out.sp.r.cell (i := j) hlt; have f2 := S5.out.sp.r.frozen j))
            have S6 := Lib.hid (S5.out.setR j O)
            clear S4 S5 c2 f2 gr hb7
            generalize w7.setCell ⟨g2, j, none⟩ (.int .i64 O) = w8 at S6 ⊢
            have c3 := S6.out.sp.s.cell (i := j) hlt
            have c3e : ints (put (upTo (part sz S wt) j) j P) j = .int .i64 P := by simp [ints, put]
            rw [c3e] at c3
            clear c3e
            generalize sumTo (part sz S wt) j = y at *
            go_wp2_with fail
            go_roundw
            case rel =>
              refine ⟨j + 1, by omega, int_eq (by rw [SM.out, EP.out]; omega), by go_num, Lib.hid ?_⟩
              have := S6.out.sp
              rw [← EP.out, ← EO.out, PU.out, OU.out] at this
              exact this
            case measure => simp [intOf]; omega
        · obtain rfl : j = k := by omega
          have hL := left_lt sz S wt j hn0 S0 HSS.out
          obtain ⟨L, eL⟩ := Int.eq_ofNat_of_zero_le (a := sz - sumTo (part sz S wt) j) (by omega)
          have SP1 : Hid (Sp w wr gz g1 g2 j sz (got sz S wt p 0) (picked (over sz S wt) p 0)) := Lib.hid (hSP.out.congr
            (fun i hi => by unfold upTo got; rw [if_pos hi, taken_zero]; simp)
            (fun i hi => by unfold upTo picked; rw [if_pos hi, taken_zero]; simp))
          have PN := Lib.hid (fun i (hi : i < j) => part_nonneg sz S wt i z0 S0 (HO.out i hi).1)
          have PL := Lib.hid (fun i (hi : i < j) => And.intro (parts_le sz S wt (i + 1) z0 S0 (fun i' hi' => (HO.out i' (by omega)).1) (by
              have h1 := sumTo_mono (f := wt) (k := i + 1) (n := j) (by omega) fun i hi => (HO.out i hi).1
              have h3 := HSS.out
              omega)) (sumTo_nonneg (f := part sz S wt) (n := i) fun i' hi' => part_nonneg sz S wt i' z0 S0 (HO.out i' (by omega)).1))
          have GB : Hid (∀ (x i : Nat), i < j → 0 ≤ got sz S wt p x i ∧ got sz S wt p x i ≤ sz + 1) := Lib.hid fun x i hi => by
            have e1 := PN.out i hi
            have e2 := PL.out i hi
            rw [sumTo] at e2
            unfold got; split <;> omega
          have OB := Lib.hid (fun i => (over_bd sz S wt i S0).1)
          have HL := Lib.hid eL
          have hL2 : L < j := by omega
          rw [eL]
          clear eL hL p0 p1 hSP SP0 PN PL
          go_wp2_with fail
          go_loopw [9] (fun t9 wr => ∃ x : Nat, x ≤ L ∧ t9 = .int .i64 ((L : Int) - x) ∧ Hid (Sp w wr gz g1 g2 j sz (got sz S wt p x) (picked (over sz S wt) p x))) (fun t9 _ => (intOf t9).toNat)
          case atStart => exact ⟨0, by omega, int_eq (by simp), SP1⟩
          case round =>
            obtain ⟨x, hx, rfl, hSP⟩ := hrel
            by_cases hxl : x < L
            · have hpos : (0 : Int) < (L : Int) - x := by omega
              have hxL : Hid (x < L) := Lib.hid hxl
              generalize hy : (L : Int) - x = y at hpos ⊢
              have HY := Lib.hid hy
              have hy1 : y ≤ 1024 := by omega
              clear hy
              go_wp2_with fail
              go_loopw [16, 121] (fun t16 t121 wr => ∃ i a : Nat, i ≤ j ∧ t16 = .int .i64 a ∧ t121 = .int .i64 i ∧ Hid (Top (picked (over sz S wt) p x) i a) ∧ Hid (Sp w wr gz g1 g2 j sz (got sz S wt p x) (picked (over sz S wt) p x))) (fun _ t121 _ => j - (intOf t121).toNat)
              case atStart => exact ⟨0, 0, by omega, rfl, rfl, Lib.hid (Top.start _), hSP⟩
              case round =>
                obtain ⟨i, a, hi, rfl, rfl, hT, hSP⟩ := hrel
                have hxL2 := hxL.out
                by_cases hij : i < j
                · have aj : a < j := by rcases hT.out.1 with c | ⟨c1, c2⟩ <;> omega
                  have c1 : wr.cell? ⟨g2, i, none⟩ = some (.int .i64 (picked (over sz S wt) p x i)) := hSP.out.r.cell (i := i) hij
                  have c2 : wr.cell? ⟨g2, a, none⟩ = some (.int .i64 (picked (over sz S wt) p x a)) := hSP.out.r.cell (i := a) aj
                  have hiji : (i : Int) < j := by omega
                  have haj : (a : Int) < j := by omega
                  by_cases hgt : picked (over sz S wt) p x a < picked (over sz S wt) p x i
                  · have hT2 := Lib.hid (hT.out.more hgt)
                    have hgd := decide_eq_true hgt
                    clear hT hgt
                    generalize picked (over sz S wt) p x i = X at c1 hgd ⊢
                    generalize picked (over sz S wt) p x a = Y at c2 hgd ⊢
                    have SQ : ∀ q, Hid (Sp w (wr.drewN q) gz g1 g2 j sz (got sz S wt p x) (picked (over sz S wt) p x)) := fun q => Lib.hid (hSP.out.keep (drewN_below _ _ q))
                    clear hSP
                    have HSQ := Lib.hid SQ
                    clear SQ
                    go_wp2_with fail
                    go_quiet (fail)
                    go_wp2_with fail
                    go_roundw
                    case rel => exact ⟨i + 1, i, by omega, rfl, by go_num, hT2, HSQ.out nq⟩
                    case measure => simp [intOf]; omega
                  · have hT2 := Lib.hid (hT.out.same hgt)
                    have hgd := decide_eq_false hgt
                    clear hT hgt
                    generalize picked (over sz S wt) p x i = X at c1 hgd ⊢
                    generalize picked (over sz S wt) p x a = Y at c2 hgd ⊢
                    have SQ : ∀ q, Hid (Sp w (wr.drewN q) gz g1 g2 j sz (got sz S wt p x) (picked (over sz S wt) p x)) := fun q => Lib.hid (hSP.out.keep (drewN_below _ _ q))
                    clear hSP
                    have HSQ := Lib.hid SQ
                    clear SQ
                    go_wp2_with fail
                    go_quiet (fail)
                    go_wp2_with fail
                    go_roundw
                    case rel => exact ⟨i + 1, a, by omega, rfl, by go_num, hT2, HSQ.out nq⟩
                    case measure => simp [intOf]; omega
                · obtain rfl : i = j := by omega
                  have xj : x < i := by omega
                  have ea : a = p[x]!.val := top_is HPB.out HPS.out OB.out xj hT.out
                  have aj : a < i := by rcases hT.out.1 with c | ⟨c1, c2⟩ <;> omega
                  have haj : (a : Int) < i := by omega
                  have c1 : wr.cell? ⟨g1, a, none⟩ = some (.int .i64 (got sz S wt p x a)) := hSP.out.s.cell (i := a) aj
                  have f1 := hSP.out.s.frozen a
                  obtain ⟨b3, b4⟩ := GB.out x a aj
                  have G1 : Hid (put (got sz S wt p x) a (got sz S wt p x a + 1) = got sz S wt p (x + 1)) := Lib.hid (by
                    funext k
                    rw [got_step _ sz S wt p x k i xj HPS.out]
                    unfold put
                    rw [ea]
                    split
                    · next h => rw [h]
                    · rfl)
                  have G2 : Hid (put (picked (over sz S wt) p x) a (-1) = picked (over sz S wt) p (x + 1)) := Lib.hid (by
                    rw [← picked_step, ea]
                    rfl)
                  obtain ⟨v, hv⟩ : ∃ v, got sz S wt p x a = v := ⟨_, rfl⟩
                  rw [hv] at c1 b3 b4 G1
                  have EA := Lib.hid ea
                  clear hT ea hv
                  go_upto_region 35 with fail
                  have S3 := Lib.hid (hSP.out.setS a (v + 1))
                  clear hSP c1 f1
                  generalize wr.setCell ⟨g1, a, none⟩ (.int .i64 (v + 1)) = w6 at S3 ⊢
                  have c2 := S3.out.r.cell (i := a) aj
                  have f2 := S3.out.r.frozen a
                  go_wp2_with fail
                  go_roundw
                  case rel =>
                    have hy2 := HY.out
                    refine ⟨x + 1, by omega, int_eq (by omega), Lib.hid ?_⟩
                    have := S3.out.setR a (-1)
                    rw [G1.out, G2.out] at this
                    exact this
                  case measure => simp [intOf]; omega
            · obtain rfl : x = L := by omega
              by_cases hTn : T < 0
              · have Z1 := Lib.hid (show w.heap.size ≤ g1 from hSP.out.h1)
                go_wp2_with fail
                go_loopw [148] (fun t148 wr => ∃ i : Nat, i ≤ j ∧ t148 = .int .i64 i ∧ wr.rowIs g1 2 j (fun k => .int .i64 (if k < i then -got sz S wt p x k else got sz S wt p x k)) ∧ RowKit.Below w.heap.size w wr) (fun t148 _ => j - (intOf t148).toNat)
                case atStart => exact ⟨0, by omega, rfl, hSP.out.s.congr fun i _ => by simp [ints], hSP.out.bl⟩
                case round =>
                  obtain ⟨i, hi, rfl, r1, hbl⟩ := hrel
                  by_cases hlt : i < j
                  · have c1 := r1.cell hlt
                    have f1 := r1.frozen i
                    rw [if_neg (Nat.lt_irrefl i)] at c1
                    obtain ⟨v, hv⟩ : ∃ v, got sz S wt p x i = v := ⟨_, rfl⟩
                    have hxb := GB.out x i hlt
                    rw [hv] at c1 hxb
                    obtain ⟨x0, x1⟩ := hxb
                    have HX := Lib.hid hv
                    have R := Lib.hid (And.intro r1 hbl)
                    clear hv r1 hbl
                    have hji : (i : Int) < j := by omega
                    go_wp2_with fail
                    go_roundw
                    case rel =>
                      refine ⟨i + 1, by omega, by go_num, ?_, R.out.2.setCell Z1.out _⟩
                      refine (R.out.1.set i _).congr fun k hk => ?_
                      by_cases e : k = i
                      · rw [if_pos e, e, if_pos (by omega), HX.out]
                      · rw [if_neg e]
                        by_cases e2 : k < i
                        · rw [if_pos e2, if_pos (by omega)]
                        · rw [if_neg e2, if_neg (by omega)]
                    case measure => simp [intOf]; omega
                  · obtain rfl : i = j := by omega
                    have HF := Lib.hid (And.intro r1 hbl)
                    clear r1 hbl
                    go_wp2_with fail
                    go_ret2
                    exact ⟨x, g1, rfl, by rw [HSZ.out, HL.out], by omega, Z1.out, by rw [HSZ.out]; exact HF.out.1.congr fun k hk => by rw [if_pos hk, signOf, if_pos hTn], HF.out.2⟩
              · go_wp2_with fail
                go_ret2
                exact ⟨x, g1, rfl, by rw [HSZ.out, HL.out], by omega, hSP.out.h1, by rw [HSZ.out]; exact hSP.out.s.congr fun k hk => by rw [signOf, if_neg (by omega)]; rfl, hSP.out.bl⟩

end Go.Proofs.YtefkabkncmflpaaDoor
