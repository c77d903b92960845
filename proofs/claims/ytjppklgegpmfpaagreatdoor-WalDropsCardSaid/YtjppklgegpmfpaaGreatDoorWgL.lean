/-
  Walks: a log restored.
-/
import Derived.Test.YtjppklgegpmfpaaGreatDoorWgK
import Derived.Test.YtjppklgegpmfpaaGreatDoorSgB
namespace Go.Proofs.YtjppklgegpmfpaaGreatDoor
open Go.RowKit
open Go.Maps

/-- What a log's disk has, to be restored. -/
structure Found (s : Ls) (p : ByteArray) (L : List Sg) (n : Nat) : Prop where
  fs : s.m.fs = segFs p L
  rise : Rising L
  len : L.length = n
  down : s.m.down = false
  still : L ≠ [] → Still s.m
  byt : ∀ x ∈ L, Byt x.2.1
  short : ∀ x ∈ L, x.2.1.length ≤ 1099511627776
  whole : ∀ (i : Nat) (x : Sg), i + 1 < n → L[i]? = some x → (allL x.2.1).2.2 = 0
  few : (pays (L.map (fun x => x.2.1))).length ≤ 1099511627776
  n6 : n ≤ 1000000
  sum : sumM s.m.fs ≤ 1099511627776
theorem Found.fits {s : Ls} {p : ByteArray} {L : List Sg} {n : Nat} (hp : IsPre p) (h : Found s p L n) : Fits s.m 1099511627776 := by
  refine ⟨?_, fun x hx => ?_, fun x hx => ?_⟩
  · rw [h.fs]; unfold segFs; rw [List.length_map, h.len]; have := h.n6; omega
  · rw [h.fs] at hx; obtain ⟨y, hy, rfl⟩ := List.mem_map.1 hx; have := h.short y hy; simp only; omega
  · rw [h.fs] at hx; obtain ⟨y, hy, rfl⟩ := List.mem_map.1 hx; exact pre_size hp _
theorem Found.segs {s : Ls} {p : ByteArray} {L : List Sg} {n : Nat} (hp : IsPre p) (h : Found s p L n) : Segs s p (L.map Prod.fst) (L.map (fun x => x.2.1)) n := by
  refine ⟨by rw [List.length_map, h.len], by rw [List.length_map, h.len], fun k hk => ?_, fun i k x hk hx => ?_, fun x hx => ?_, fun x hx => ?_, fun i x hi hx => ?_, h.few, h.n6⟩
  · obtain ⟨y, hy, rfl⟩ := List.mem_map.1 hk
    exact h.rise.inn y hy
  · rw [List.getElem?_map] at hk hx
    cases hL : L[i]? with
    | none => rw [hL] at hk; cases hk
    | some y =>
      rw [hL] at hk hx
      injection hk with hk
      injection hx with hx
      rw [← hk, ← hx]
      exact read_seg hp h.down h.fs h.rise hL
  · obtain ⟨y, hy, rfl⟩ := List.mem_map.1 hx
    exact h.byt y hy
  · obtain ⟨y, hy, rfl⟩ := List.mem_map.1 hx
    exact h.short y hy
  · rw [List.getElem?_map] at hx
    cases hL : L[i]? with
    | none => rw [hL] at hx; cases hx
    | some y =>
      rw [hL] at hx
      injection hx with hx
      rw [← hx]
      exact h.whole i y hi hL
/-- The next segment's number. -/
def nextNo (L : List Sg) : Nat := match L.getLast? with
  | none => 1
  | some x => x.1 + 1
def RestoredTo (w : World) (B g lb : Nat) (d : Pk) (s : Ls) (p : ByteArray) (size : Nat) (L : List Sg) (e : Ending) (w' : World) : Prop :=
  ∃ T A c m d', e = .returned (.tuple #[.slice A m c, .int .i64 0]) ∧ T.length = m ∧ byts T = pays (L.map (fun x => x.2.1)) ∧ Seen w' w.heap.size A c T ∧ (∀ k, RB A T k → ¬ lown d' g lb k) ∧
    LSt w' B g lb d' ⟨{ s.m with fs := segFs p (L.map fixS) }, nextNo L, s.len⟩ p size ∧ Does (lown d g lb) (lown d' g lb) w w'

theorem whole_val {ds : List (List Int)} {w' : World} {H : Nat} {bk : Bool} {v : Value} (h : Whole ds w' H bk v) : ∃ wA wl wc, v = .slice wA wl wc := by
  rcases h with ⟨-, h, -⟩ | ⟨-, L, a, wA, wc, -, -, -, h, -⟩
  · exact ⟨_, _, _, h⟩
  · exact ⟨_, _, _, h⟩

theorem size_int (W : World) : (sizeOf (Tryz.prog.elem 23)).run Tryz.prog W = .ok 1 W := by
  have h : Tryz.prog.elem 23 = 3 := by kernel_rfl
  obtain ⟨i, hi, hz0, hz1, hz2⟩ := info_parts info3
  rw [h]
  simp [sizeOf, typeInfo, hi, hz1]
theorem under_int : Tryz.prog.underlying 23 = some (.slice (Tryz.prog.elem 23)) := by kernel_rfl
theorem ints_high (A : Option Addr) (n c : Nat) (hc : n ≤ c) : ∀ W : World, (Instr.slice 23 (.slice A n c) none (some (.int .i64 (n : Int))) none).run Tryz.prog W = .ok (.slice A n c) W := fun W => by
  rw [run_slice_h (P := Tryz.prog) W _ A n c under_int .i64 (n : Int) (by omega) (by omega), size_int]
  cases A <;> simp [Result.andThen, sliced, Addr.add]
theorem ints_low (A : Option Addr) (n c : Nat) (hc : n ≤ c) : ∃ A', ∀ W : World, (Instr.slice 23 (.slice A n c) (some (.int .i64 (n : Int))) none none).run Tryz.prog W = .ok (.slice A' 0 (c - n)) W := by
  refine ⟨if c = n then A else A.map (·.add n), fun W => ?_⟩
  rw [run_slice_l (P := Tryz.prog) W _ A n c under_int .i64 (n : Int) (by omega) (by omega), size_int]
  simp [Result.andThen, sliced]
theorem last_at {L : List Sg} {n : Nat} (h : L.length = n) (h0 : 0 < n) : ∃ x, L[n - 1]? = some x ∧ L.getLast? = some x := by
  have hi : n - 1 < L.length := by omega
  refine ⟨L[n - 1], List.getElem?_eq_getElem hi, ?_⟩
  rw [List.getLast?_eq_getElem?, h, List.getElem?_eq_getElem hi]
/-- What stands behind the reading, whatever the disk does then. -/
structure Rests (w1 w4 X : World) (A2 A3 : Option Addr) (c2 c3 m n : Nat) (bk : Bool) (v : Value) (fb : Nat) (ns : List Nat) (T : List Sl) : Prop where
  f : FAt X fb A3 m c3 n bk v
  nums : Irow X w1.heap.size A2 c2 (zs ns)
  seen : Seen X w1.heap.size A3 c3 T
theorem Rests.over {w1 w4 X : World} {A2 A3 : Option Addr} {c2 c3 m n fb : Nat} {bk : Bool} {v : Value} {ns : List Nat} {T : List Sl} {S : Nat → Prop} (h : Rests w1 w4 w4 A2 A3 c2 c3 m n bk v fb ns T) (hfb : w1.heap.size ≤ fb) (k : Kept5 w1.heap.size w4 X S) : Rests w1 w4 X A2 A3 c2 c3 m n bk v fb ns T ∧ ∀ j, RB A3 T j → ¬ S j :=
  ⟨⟨h.f.of (k.eq _ hfb h.f.lt), own_block h.nums (fun ad ha => k.eq _ (own_in h.nums ad ha).1 (own_in h.nums ad ha).2), h.seen.of (fun j hj => k.eq _ (h.seen.in_ j hj).1 (h.seen.in_ j hj).2)⟩, fun j hj => k.off j (h.seen.in_ j hj).1 (h.seen.in_ j hj).2⟩
theorem cut_sum {L : List Sg} {x : Sg} (h : L.getLast? = some x) : ∃ M, L = M ++ [x] := by
  rcases List.eq_nil_or_concat L with rfl | ⟨M, y, rfl⟩
  · cases h
  · simp at h
    exact ⟨M, by simp [h]⟩

set_option maxRecDepth 100000 in
set_option maxHeartbeats 8000000 in
theorem restore_any (B g lb : Nat) (d : Pk) (s : Ls) (p : ByteArray) (size n : Nat) (L : List Sg) (w : World) (h : LSt w B g lb d s p size) (hp : IsPre p) (hT : Tab B w) (hg : Found s p L n) :
    Calls Tryz.prog 22 #[.pointer (some ⟨lb, 0, none⟩)] w (RestoredTo w B g lb d s p size L) := by
  have H := Lib.hid h
  have HG := Lib.hid hg
  have HP := Lib.hid hp
  have HT := Lib.hid hT
  have HC := Lib.hid (fun (W : World) (hb : Below w.heap.size w W) => (h.kept hb).lg.cell.1)
  have HTM := Lib.hid (fun (W : World) (hb : Below w.heap.size w W) => temp_any lb g _ W hp (h.kept hb).lg)
  have HDL : Hid (∀ W, Below w.heap.size w W → Calls Tryz.prog 33 #[.pointer (some ⟨g, 0, none⟩), .string (tmp p)] W fun e w' => e = .returned (.int .i64 22) ∧ LRest W B g lb d p size s w') := Lib.hid (fun W hb => by
    refine (delete_vm B g d s.m s.m 22 (tmp p) W (h.kept hb).ps h.vm (pre_size' hp) (delete_tmp hp hg.down hg.fs)).mono ?_
    rintro e w' ⟨rfl, hr⟩
    exact ⟨rfl, (h.kept hb).rest hr⟩)
  have HNO : Hid (∀ (W : World) (d' : Pk), LSt W B g lb d' s p size → Calls Tryz.prog 32 #[.pointer (some ⟨lb, 0, none⟩)] W fun e w' => ∃ A c, e = .returned (.tuple #[.slice A n c, .int .i64 0]) ∧ Irow w' W.heap.size A c (zs (L.map Prod.fst)) ∧ Below W.heap.size W w') := Lib.hid (fun W d' k1 =>
    numbers_any B g lb d' s p size n (L.map Prod.fst) W k1 hg.down ⟨(hg.fits hp).few, fun x hx => by have := (hg.fits hp).long x hx; omega, (hg.fits hp).names⟩ (by rw [hg.fs]; unfold segFs; rw [List.map_map, List.map_map]; rfl) (by rw [List.length_map, hg.len]) (fun k hk => by obtain ⟨y, hy, rfl⟩ := List.mem_map.1 hk; exact hg.rise.inn y hy) hg.n6)
  have HRD : Hid (∀ (W : World) (d' : Pk) (nA : Option Addr) (nC : Nat), LSt W B g lb d' s p size → Below B w W → Ints W nA (zs (L.map Prod.fst)) → Calls Tryz.prog 38 #[.pointer (some ⟨lb, 0, none⟩), .slice nA n nC] W (ReadOf (L.map (fun x => x.2.1)) n W)) := Lib.hid (fun W d' nA nC k1 k2 k3 =>
    readLog_any B g lb d' s p size n (L.map Prod.fst) (L.map (fun x => x.2.1)) nA nC W k1 hp (hT.on k2) ⟨(hg.fits hp).few, fun x hx => by have := (hg.fits hp).long x hx; omega, (hg.fits hp).names⟩ k3 (hg.segs hp))
  have hn6 := hg.n6
  simp only at HTM
  generalize tmp p = tg at HTM HDL
  clear h hp hT hg
  go_enter Tryz.func22, Tryz.ntmps22
  go_upto_region 1 with fail
  go_region_held3 (fun W => W.cell? ⟨lb, 0, none⟩ = some (.pointer (some ⟨g, 0, none⟩))) (first | exact E1.out.1.lg.cell.1 | exact HC.out _ (Below.refl _ _) | exact HC.out _ (Below.refl _ _).drew | go_keep) (first
    | (go_at_call 37; refine (HTM.out _ (by first | exact Below.refl _ _ | exact (Below.refl _ _).drew)).mono ?_; rintro e w0 ⟨rfl, hx⟩; subst hx)
    | (go_at_call 33; refine (HDL.out _ (by first | exact Below.refl _ _ | exact (Below.refl _ _).drew)).mono ?_; rintro e w1 ⟨rfl, d1, hx⟩; have E1 : Hid (LSt w1 B g lb d1 s p size ∧ Does (lown d g lb) (lown d1 g lb) w w1) := Lib.hid ⟨hx.1, (Does.of_below (by first | exact Below.refl _ _ | exact (Below.refl _ _).drew : Below w.heap.size w _) (fun _ hk => .inl hk)).trans hx.2⟩; clear hx))
  all_goals
    have B1 : Hid (Below B w w1) := Lib.hid (E1.out.2.below H.out.size_le (fun k hk => (H.out.owned k hk).1))
    go_upto_region 8 with (first
      | (go_at_call 32; refine (HNO.out _ d1 E1.out.1).mono ?_; rintro e w2 ⟨A2, c2, rfl, hi, hb⟩; have R2 := Lib.hid hi; have B2 := Lib.hid hb; clear hi hb)
      | (go_at_call 38; refine (HRD.out _ d1 A2 c2 (E1.out.1.kept B2.out) (B1.out.trans (B2.out.mono E1.out.1.size_le)) R2.out.lies).mono ?_; rintro e w3 ⟨T, A3, c3, m, bk, v, rfl, hm, ht, hs, hw, hb⟩; obtain ⟨wA, wl, wc, rfl⟩ := whole_val hw; have E3 := Lib.hid (And.intro hm (And.intro ht (And.intro hs hw))); have B3 := Lib.hid hb; clear hm ht hs hw hb))
    obtain ⟨w4, hw4⟩ : ∃ w4, w3.alloc (.cells #[.slice A3 m c3, .int .i64 (n : Int), .bool bk, .slice wA wl wc] 77) = w4 := ⟨_, rfl⟩
    have B4 : Hid (Below w1.heap.size w1 w4) := Lib.hid (hw4 ▸ ((B2.out.trans (B3.out.mono B2.out.size)).trans ((below_new w3 _).mono (Nat.le_trans B2.out.size B3.out.size))))
    have Z3 : Hid (w1.heap.size ≤ w3.heap.size) := Lib.hid (Nat.le_trans B2.out.size B3.out.size)
    have Q4 : Hid (Rests w1 w4 w4 A2 A3 c2 c3 m n bk (.slice wA wl wc) w3.heap.size (L.map Prod.fst) T) := Lib.hid (by
      refine ⟨?_, own_mono (own_kept (own_kept R2.out B3.out (Nat.le_refl _)) (hw4 ▸ below_new w3 _) (Nat.le_refl _)) (Nat.le_refl _), (E3.out.2.2.1.kept (hw4 ▸ below_new w3 _)).mono B2.out.size⟩
      rw [← hw4]
      exact heap_alloc_new w3 _)
    have W4 : Hid (Whole (L.map (fun x => x.2.1)) w3 w2.heap.size bk (.slice wA wl wc)) := Lib.hid E3.out.2.2.2
    have B34 : Hid (Below w3.heap.size w3 w4) := Lib.hid (hw4 ▸ below_new w3 _)
    rw [hw4]
    clear hw4
    have L4 := Lib.hid (E1.out.1.kept B4.out)
    have K4 : Hid (Kept5 w1.heap.size w4 w4 (lown d1 g lb)) := Lib.hid ⟨fun _ _ _ => rfl, fun j h1 _ hs => by have := (E1.out.1.owned j hs).2; omega, Nat.le_refl _⟩
    have hcap := (own_cap Q4.out.nums).1
    rw [zs_len, List.length_map, HG.out.len] at hcap
    have hs1 := ints_high A2 n c2 hcap
    obtain ⟨bA, hs2⟩ := ints_low A2 n c2 hcap
    obtain ⟨-, f1, f2, -⟩ := Q4.out.f.cell
    go_upto_region 10 with fail
    go_quiet (fail)
    clear hs1 hs2 f1 f2 hcap
    obtain ⟨w5, hw5⟩ : ∃ w5, w4.drewN nq = w5 := ⟨_, rfl⟩
    have B5 : Hid (Below w4.heap.size w4 w5) := Lib.hid (hw5 ▸ below_drewN (Below.refl _ _) nq)
    rw [hw5]
    clear hw5
    have K5 := Lib.hid (K4.out.below B5.out)
    have L5 := Lib.hid (L4.out.kept B5.out)
    have D5 : Hid (Does (lown d g lb) (lown d1 g lb) w w5) := Lib.hid (E1.out.2.trans (Does.of_below (B4.out.trans (B5.out.mono B4.out.size)) (fun _ hk => .inl hk)))
    obtain ⟨-, f1, f2, f3⟩ := ((Q4.out.over Z3.out K5.out).1.f).cell
    cases bk
    · have E6 : Hid (LSt w5 B g lb d1 ⟨{ s.m with fs := segFs p (cutS L false) }, s.num, s.len⟩ p size ∧ Does (lown d g lb) (lown d1 g lb) w w5 ∧ Kept5 w1.heap.size w4 w5 (lown d1 g lb)) := Lib.hid ⟨by
        have e : (⟨{ s.m with fs := segFs p (cutS L false) }, s.num, s.len⟩ : Ls) = s := by
          show (⟨{ s.m with fs := segFs p L }, s.num, s.len⟩ : Ls) = s
          rw [← HG.out.fs]
        rw [e]
        exact L5.out, D5.out, K5.out⟩
      have H0 : Hid (∀ x ∈ L, (allL x.2.1).2.2 = 0) := Lib.hid (fun x hx => by
        rcases W4.out with ⟨-, -, h3⟩ | ⟨h3, -⟩
        · exact h3 x.2.1 (List.mem_map_of_mem hx)
        · cases h3)
      go_upto_region 15 with fail
      obtain ⟨w6, hw6⟩ : ∃ w6, w5 = w6 := ⟨_, rfl⟩
      obtain ⟨d6, hd6⟩ : ∃ d6, d1 = d6 := ⟨_, rfl⟩
      rw [hw6, hd6] at E6
      rw [hw6]
      obtain ⟨bk, hbk⟩ : ∃ bk, false = bk := ⟨_, rfl⟩
      have HS6 : Hid (L.map fixS = (cutS L bk).map syn ∧ (L ≠ [] → Still s.m)) := Lib.hid ⟨by rw [← hbk]; exact (cutS_syn (fun i x hi hx => HG.out.whole i x (by rw [← HG.out.len]; exact hi) hx) (fun _ => H0.out)).symm, HG.out.still⟩
      rw [hbk] at E6 Q4
      obtain ⟨A0, hA0⟩ : ∃ A0, A2 = A0 := ⟨_, rfl⟩
      rw [hA0] at Q4
      rw [hA0]
      clear hw6 hd6 hbk hA0 f1 f2 f3 H0 L5 D5 K5 B5 W4
      have Q0 : Hid (∀ (X : World) (S' : Nat → Prop), Kept5 w1.heap.size w4 X S' → Rests w1 w4 X A0 A3 c2 c3 m n bk (.slice wA wl wc) w3.heap.size (L.map Prod.fst) T ∧ ∀ j, RB A3 T j → ¬ S' j) := Lib.hid (fun X S' k => Q4.out.over Z3.out k)
      have hlenC : (cutS L bk).length = n := by rw [cutS_len, HG.out.len]
      have HLC := Lib.hid hlenC
      have B6 : Hid (Below B w w6) := Lib.hid (E6.out.2.1.below H.out.size_le (fun k hk => (H.out.owned k hk).1))
      clear hlenC
      go_wp2_with fail
      go_loopw [71] (fun t71 wr => ∃ (i : Nat) (dX : Pk), i ≤ n ∧ t71 = .int .i64 (i : Int) ∧ Hid (LSt wr B g lb dX ⟨{ s.m with fs := segFs p (upS (cutS L bk) i) }, s.num, s.len⟩ p size ∧ Does (lown d g lb) (lown dX g lb) w wr ∧ Kept5 w1.heap.size w4 wr (lown dX g lb))) (fun t71 _ => n - (intOf t71).toNat)
      case atStart => exact ⟨0, d6, by omega, rfl, Lib.hid (by rw [upS_zero]; exact E6.out)⟩
      case round =>
        obtain ⟨i, dX, hi, rfl, hr⟩ := hrel
        by_cases hlt : i < n
        · have hx := List.getElem?_eq_getElem (l := cutS L bk) (i := i) (by have := HLC.out; omega)
          generalize (cutS L bk)[i]'(by have := HLC.out; omega) = x at hx
          have hnum : (L.map Prod.fst)[i]? = some x.1 := by rw [← cutS_nums L bk, List.getElem?_map, hx]; rfl
          have hne : L ≠ [] := fun e => by have := HLC.out; rw [cutS_len, e] at this; simp at this; omega
          have hst := HS6.out.2 hne
          have hrise : Rising (upS (cutS L bk) i) := HG.out.rise.same ((upS_nums _ i).trans (cutS_nums L bk))
          have hx6 : x.1 ≤ 999999 := by
            have := List.mem_of_getElem? hnum
            obtain ⟨y, hy, e⟩ := List.mem_map.1 this
            rw [← e]
            exact (HG.out.rise.inn y hy).2
          obtain ⟨ad, hA, a0⟩ := ints_at (Q0.out _ _ hr.out.2.2).1.nums.lies (show (zs (L.map Prod.fst))[i]? = some (x.1 : Int) by unfold zs; rw [List.getElem?_map, hnum]; rfl)
          have HNM : Hid (∀ W, Below wr.heap.size wr W → Calls Tryz.prog 26 #[.pointer (some ⟨lb, 0, none⟩), .int .i64 (x.1 : Int)] W fun e w' => e = .returned (.string (seg p x.1)) ∧ Below W.heap.size W w') := Lib.hid (fun W hb => name_any B lb g x.1 _ W HP.out hx6 (hr.out.1.kept hb).lg (HT.out.on ((hr.out.2.1.below H.out.size_le (fun k hk => (H.out.owned k hk).1)).trans (hb.mono hr.out.1.size_le))) (hr.out.1.kept hb).size_le)
          have HSY : Hid (∀ W, Below wr.heap.size wr W → Calls Tryz.prog 27 #[.pointer (some ⟨g, 0, none⟩), .string (seg p x.1)] W fun e w' => e = .returned (.int .i64 0) ∧ LRest W B g lb dX p size ⟨{ s.m with fs := segFs p (upS (cutS L bk) (i + 1)) }, s.num, s.len⟩ w') := Lib.hid (fun W hb => by
            have e := sync_seg HP.out (m := { s.m with fs := segFs p (upS (cutS L bk) i) }) (L := upS (cutS L bk) i) ⟨hst.down, hst.left, hst.room⟩ rfl hrise (upS_get hx)
            rw [show (x.1, x.2.1, (x.2.1.length : Int)) = syn x from rfl, upS_step hx] at e
            refine (sync_vm B g dX _ _ 0 (seg p x.1) W (hr.out.1.kept hb).ps hr.out.1.vm (pre_size HP.out x.1) e).mono ?_
            rintro e w' ⟨rfl, hx'⟩
            exact ⟨rfl, (hr.out.1.kept hb).rest hx'⟩)
          have HCX := Lib.hid (fun (W : World) (hb : Below wr.heap.size wr W) => (hr.out.1.kept hb).lg.cell.1)
          generalize seg p x.1 = sg at HNM HSY
          subst hA
          clear hx hnum hne hst hrise hx6
          go_upto_region 18 with fail
          go_region_held3 (fun W => W.cell? ⟨lb, 0, none⟩ = some (.pointer (some ⟨g, 0, none⟩))) (first | exact E9.out.1.lg.cell.1 | exact HCX.out _ E8.out | exact HCX.out _ (Below.refl _ _) | exact HCX.out _ (Below.refl _ _).drew | go_keep) (first
            | (go_at_call 26; refine (HNM.out _ (by first | exact Below.refl _ _ | exact (Below.refl _ _).drew)).mono ?_; rintro e w8 ⟨rfl, hb⟩; have E8 : Hid (Below wr.heap.size wr w8) := Lib.hid ((by first | exact Below.refl _ _ | exact (Below.refl _ _).drew : Below wr.heap.size wr _).trans hb); clear hb)
            | (go_at_call 27; refine (HSY.out _ E8.out).mono ?_; rintro e w9 ⟨rfl, d9, hx9⟩; have E9 : Hid (LSt w9 B g lb d9 ⟨{ s.m with fs := segFs p (upS (cutS L bk) (i + 1)) }, s.num, s.len⟩ p size ∧ Does (lown dX g lb) (lown d9 g lb) wr w9) := Lib.hid ⟨hx9.1, (Does.of_below E8.out (fun _ hk => .inl hk)).trans hx9.2⟩; clear hx9))
          all_goals
            go_wp2_with fail
            go_roundw
            case rel => exact ⟨i + 1, d9, by omega, by go_num, Lib.hid ⟨E9.out.1, hr.out.2.1.trans E9.out.2, hr.out.2.2.does E9.out.2⟩⟩
            case measure => simp [intOf]; omega
        · obtain rfl : i = n := by omega
          have LX : Hid (LSt wr B g lb dX ⟨{ s.m with fs := segFs p (L.map fixS) }, s.num, s.len⟩ p size) := Lib.hid (by
            have e := hr.out.1
            rw [upS_all HLC.out, ← HS6.out.1] at e
            exact e)
          have T1 : Hid (LSt (wr.setCell ⟨lb, 3, none⟩ (.int .i64 1)) B g lb dX ⟨{ s.m with fs := segFs p (L.map fixS) }, 1, s.len⟩ p size ∧ Does (lown dX g lb) (lown dX g lb) wr (wr.setCell ⟨lb, 3, none⟩ (.int .i64 1))) := Lib.hid (LX.out.turn (s' := ⟨{ s.m with fs := segFs p (L.map fixS) }, 1, s.len⟩) rfl (LX.out.lg.setNum 1))
          have K1 := Lib.hid (hr.out.2.2.does T1.out.2)
          have V1 := Lib.hid (Q0.out _ _ K1.out)
          have cx3 := LX.out.lg.cell.2.2.2.1
          have f3 := LX.out.lg.frozen 3
          simp only at cx3
          by_cases h0 : i = 0
          · subst h0
            have HL0 : Hid (nextNo L = 1) := Lib.hid (by
              have e : L = [] := List.eq_nil_of_length_eq_zero (by have := HLC.out; rw [cutS_len] at this; exact this)
              rw [e]
              rfl)
            obtain ⟨y0, -, -, -⟩ := V1.out.1.f.cell
            go_wp2_with fail
            go_ret2
            exact ⟨T, A3, c3, m, dX, rfl, E3.out.1, E3.out.2.1, V1.out.1.seen.mono E1.out.2.size, V1.out.2, by rw [HL0.out]; exact T1.out.1, hr.out.2.1.trans T1.out.2⟩
          · obtain ⟨x, hx1, hx2⟩ := last_at HG.out.len (show 0 < i by omega)
            have HL0 : Hid (nextNo L = x.1 + 1) := Lib.hid (by unfold nextNo; rw [hx2])
            have hx6 := HG.out.rise.inn x (List.mem_of_getElem? hx1)
            obtain ⟨ad, hA, a0⟩ := ints_at V1.out.1.nums.lies (show (zs (L.map Prod.fst))[i - 1]? = some (x.1 : Int) by unfold zs; rw [List.getElem?_map, List.getElem?_map, hx1]; rfl)
            have T2 : Hid (LSt ((wr.setCell ⟨lb, 3, none⟩ (.int .i64 1)).setCell ⟨lb, 3, none⟩ (.int .i64 ((x.1 : Int) + 1))) B g lb dX ⟨{ s.m with fs := segFs p (L.map fixS) }, x.1 + 1, s.len⟩ p size ∧ Does (lown dX g lb) (lown dX g lb) (wr.setCell ⟨lb, 3, none⟩ (.int .i64 1)) ((wr.setCell ⟨lb, 3, none⟩ (.int .i64 1)).setCell ⟨lb, 3, none⟩ (.int .i64 ((x.1 : Int) + 1)))) := Lib.hid (by
              have e := T1.out.1.turn (s' := ⟨{ s.m with fs := segFs p (L.map fixS) }, x.1 + 1, s.len⟩) rfl (T1.out.1.lg.setNum (x.1 + 1))
              have e2 : (((x.1 + 1 : Nat) : Int)) = (x.1 : Int) + 1 := by omega
              rw [e2] at e
              exact e)
            have K2 := Lib.hid (K1.out.does T2.out.2)
            have V2 := Lib.hid (Q0.out _ _ K2.out)
            obtain ⟨y0, -, -, -⟩ := V2.out.1.f.cell
            have c4 := T1.out.1.lg.cell.2.2.2.1
            have f4 := T1.out.1.lg.frozen 3
            have hwr1 : IntKind.i64.wrap ((i : Int) - 1) = ((i - 1 : Nat) : Int) := by rw [IntKind.wrap_i64]; omega
            have hwr2 : IntKind.i64.wrap ((x.1 : Int) + 1) = (x.1 : Int) + 1 := by rw [IntKind.wrap_i64]; omega
            have hn1 : ((i - 1 : Nat) : Int) < (i : Int) := by omega
            have hn2 : i - 1 < i := by omega
            have hn3 : (0 : Int) < (i : Int) := by omega
            obtain ⟨n', hn'⟩ : ∃ n', i - 1 = n' := ⟨_, rfl⟩
            rw [hn'] at hwr1 hn1 hn2 a0
            obtain ⟨z, hz⟩ : ∃ z : Nat, x.1 = z := ⟨_, rfl⟩
            rw [hz] at a0 T2 V2 K2 y0 hwr2 HL0
            subst hA
            simp only at c4
            clear hx1 hx2 hx6 hn' h0 hz
            go_wp2_with fail
            go_ret2
            exact ⟨T, _, c3, m, dX, rfl, E3.out.1, E3.out.2.1, V2.out.1.seen.mono E1.out.2.size, V2.out.2, by rw [HL0.out]; exact T2.out.1, (hr.out.2.1.trans T1.out.2).trans T2.out.2⟩
    · obtain ⟨Lx, a, wA', wc', q1, q2, q3, q4, q5, q6⟩ := (W4.out.resolve_left (fun h => by cases h.1)).2
      injection q4 with q4a q4b q4c
      subst q4a
      subst q4b
      subst q4c
      rw [List.getLast?_map, Option.map_eq_some_iff] at q1
      obtain ⟨x, q1, rfl⟩ := q1
      obtain ⟨M, hM⟩ := cut_sum q1
      have hn0 : 0 < n := by rw [← HG.out.len, hM]; simp
      have hne : L ≠ [] := fun e => by rw [e] at hM; simp at hM
      have hxl : L[n - 1]? = some x := by rw [← HG.out.len, hM]; simp
      have hst := HG.out.still hne
      have hx0 := HG.out.rise.inn x (List.mem_of_getElem? hxl)
      have hxs := HG.out.short x (List.mem_of_getElem? hxl)
      have hxb := HG.out.byt x (List.mem_of_getElem? hxl)
      have hlen : (x.2.1.take wl).length = wl := q5.len
      have hwl : wl ≤ x.2.1.length := by rw [← hlen, List.length_take]; omega
      have HCT : Hid (∀ W, Below w5.heap.size w5 W → Calls Tryz.prog 39 #[.pointer (some ⟨lb, 0, none⟩), .int .i64 (x.1 : Int), .slice wA wl wc, .slice bA 0 (c2 - n)] W fun e w' => e = .returned (.int .i64 0) ∧ LRest W B g lb d1 p size ⟨{ s.m with fs := segFs p (cutS L true) }, s.num, s.len⟩ w') := Lib.hid (fun W hb => by
        have hfit := HG.out.fits HP.out
        have hsum := HG.out.sum
        have hb5 : Below w3.heap.size w3 W := B34.out.trans ((B5.out.trans (hb.mono B5.out.size)).mono B34.out.size)
        have e1 := append_tmp HP.out hst HG.out.fs (x.2.1.take wl)
        have e2 := sync_tmp HP.out (m := { s.m with fs := (tmp p, x.2.1.take wl, 0) :: segFs p L }) ⟨hst.down, hst.left, hst.room⟩ (x.2.1.take wl) 0 rfl
        have e3 := rename_tmp HP.out (m := { s.m with fs := (tmp p, x.2.1.take wl, ((x.2.1.take wl).length : Int)) :: segFs p L }) (L := M) (x := x) ⟨hst.down, hst.left, hst.room⟩ (x.2.1.take wl) ((x.2.1.take wl).length : Int) (hM ▸ HG.out.rise) (by rw [hM])
        have hB1 : Below B w W := B1.out.trans ((B4.out.mono E1.out.1.size_le).trans ((B5.out.trans (hb.mono B5.out.size)).mono L4.out.size_le))
        have := cutLog_any B g lb x.1 d1 s p size _ _ _ 0 wA bA (x.2.1.take wl) wl wc (c2 - n) W (L5.out.kept hb) HP.out hx0.2 (HT.out.on hB1) hlen (hxb.take wl) (q5.bys.kept hb5) (fun ad ha => ⟨fun hk => by have h1 := (E1.out.1.owned ad.block (.inl hk)).2; have h2 := (q6 ad ha).1; have h3 := B2.out.size; omega, Nat.lt_of_lt_of_le (q6 ad ha).2 hb5.size⟩)
          ⟨hfit.few, fun y hy => by have := hfit.long y hy; omega, hfit.names⟩ (by omega) (by omega) (by show ((tmp p, x.2.1.take wl, _) :: segFs p L).length * 48 ≤ _; unfold segFs; rw [List.length_cons, List.length_map, HG.out.len]; omega) e1 e2 e3
        have ec : cutS L true = M ++ [(x.1, x.2.1.take wl, ((x.2.1.take wl).length : Int))] := by
          unfold cutS
          rw [if_pos rfl, q1, hM]
          simp only [List.dropLast_concat, Option.map_some, Option.toList_some]
          unfold fixS syn
          rw [q3]
        rw [ec]
        exact this)
      have HFX : Hid (L.map fixS = (cutS L true).map syn) := Lib.hid (cutS_syn (fun i x hi hx => HG.out.whole i x (by rw [← HG.out.len]; exact hi) hx) (fun h => by cases h)).symm
      have HNB : Hid (∀ (X : World) (S' : Nat → Prop), Kept5 w1.heap.size w4 X S' → ∃ ad, A2 = some ad ∧ X.cell? (ad.add (n - 1)) = some (.int .i64 (x.1 : Int))) := Lib.hid (fun X S' k => ints_at ((Q4.out.over Z3.out k).1.nums).lies (show (zs (L.map Prod.fst))[n - 1]? = some (x.1 : Int) by unfold zs; rw [List.getElem?_map, List.getElem?_map, hxl]; rfl))
      obtain ⟨ad, rfl, a0⟩ := HNB.out _ _ K5.out
      have HSX : Hid (∀ (X : World) (S' : Nat → Prop), Kept5 w1.heap.size w4 X S' → X.cell? (ad.add (n - 1)) = some (.int .i64 (x.1 : Int)) ∧ X.cell? ⟨w3.heap.size, 1, none⟩ = some (.int .i64 (n : Int)) ∧ X.cell? ⟨w3.heap.size, 3, none⟩ = some (.slice wA wl wc)) := Lib.hid (fun X S' k => by
        obtain ⟨ad', e, h1⟩ := HNB.out X S' k
        injection e with e
        subst e
        have h2 := ((Q4.out.over Z3.out k).1.f).cell
        exact ⟨h1, h2.2.1, h2.2.2.2⟩)
      have hwr : IntKind.i64.wrap ((n : Int) - 1) = ((n - 1 : Nat) : Int) := by rw [IntKind.wrap_i64]; omega
      have hn1 : ((n - 1 : Nat) : Int) < (n : Int) := by omega
      have hn2 : n - 1 < n := by omega
      obtain ⟨n', hn'⟩ : ∃ n', n - 1 = n' := ⟨_, rfl⟩
      rw [hn'] at HSX hwr hn1 hn2 a0
      clear q2 q3 q5 q6 q1 hM hst hx0 hxs hxb hlen hwl hxl hn' HNB
      go_upto_region 12 with fail
      go_region_held3 (fun X => X.cell? (ad.add n') = some (.int .i64 (x.1 : Int)) ∧ X.cell? ⟨w3.heap.size, 1, none⟩ = some (.int .i64 (n : Int)) ∧ X.cell? ⟨w3.heap.size, 3, none⟩ = some (.slice wA wl wc)) (first | exact HSX.out _ _ K6.out | exact HSX.out _ _ K5.out | exact HSX.out _ _ (K5.out.below (Below.refl _ _).drew) | go_keep) (first
        | (go_at_call 39; refine (HCT.out _ (by first | exact Below.refl _ _ | exact (Below.refl _ _).drew)).mono ?_; rintro e w6 ⟨rfl, d6, hx⟩; have E7 : Hid (LSt w6 B g lb d6 ⟨{ s.m with fs := segFs p (cutS L true) }, s.num, s.len⟩ p size ∧ Does (lown d1 g lb) (lown d6 g lb) w5 w6) := Lib.hid ⟨hx.1, (Does.of_below (by first | exact Below.refl _ _ | exact (Below.refl _ _).drew : Below w5.heap.size w5 _) (fun _ hk => .inl hk)).trans hx.2⟩; have K6 := Lib.hid (K5.out.does E7.out.2); clear hx))
      all_goals
        have E6 : Hid (LSt w6 B g lb d6 ⟨{ s.m with fs := segFs p (cutS L true) }, s.num, s.len⟩ p size ∧ Does (lown d g lb) (lown d6 g lb) w w6 ∧ Kept5 w1.heap.size w4 w6 (lown d6 g lb)) := Lib.hid ⟨E7.out.1, D5.out.trans E7.out.2, K6.out⟩
        go_upto_region 15 with fail
        obtain ⟨bk, hbk⟩ : ∃ bk, true = bk := ⟨_, rfl⟩
        have HS6 : Hid (L.map fixS = (cutS L bk).map syn ∧ (L ≠ [] → Still s.m)) := Lib.hid ⟨by rw [← hbk]; exact HFX.out, HG.out.still⟩
        rw [hbk] at E6 Q4
        obtain ⟨A0, hA0⟩ : ∃ A0, some ad = A0 := ⟨_, rfl⟩
        rw [hA0] at Q4
        rw [hA0]
        clear hbk hA0 HCT HFX HSX hwr hn1 hn2 a0 f1 f2 f3 E7 K6 L5 D5 K5 B5 W4 hn0 hne
        have Q0 : Hid (∀ (X : World) (S' : Nat → Prop), Kept5 w1.heap.size w4 X S' → Rests w1 w4 X A0 A3 c2 c3 m n bk (.slice wA wl wc) w3.heap.size (L.map Prod.fst) T ∧ ∀ j, RB A3 T j → ¬ S' j) := Lib.hid (fun X S' k => Q4.out.over Z3.out k)
        have hlenC : (cutS L bk).length = n := by rw [cutS_len, HG.out.len]
        have HLC := Lib.hid hlenC
        have B6 : Hid (Below B w w6) := Lib.hid (E6.out.2.1.below H.out.size_le (fun k hk => (H.out.owned k hk).1))
        clear hlenC
        go_wp2_with fail
        go_loopw [71] (fun t71 wr => ∃ (i : Nat) (dX : Pk), i ≤ n ∧ t71 = .int .i64 (i : Int) ∧ Hid (LSt wr B g lb dX ⟨{ s.m with fs := segFs p (upS (cutS L bk) i) }, s.num, s.len⟩ p size ∧ Does (lown d g lb) (lown dX g lb) w wr ∧ Kept5 w1.heap.size w4 wr (lown dX g lb))) (fun t71 _ => n - (intOf t71).toNat)
        case atStart => exact ⟨0, d6, by omega, rfl, Lib.hid (by rw [upS_zero]; exact E6.out)⟩
        case round =>
          obtain ⟨i, dX, hi, rfl, hr⟩ := hrel
          by_cases hlt : i < n
          · have hx := List.getElem?_eq_getElem (l := cutS L bk) (i := i) (by have := HLC.out; omega)
            generalize (cutS L bk)[i]'(by have := HLC.out; omega) = x at hx
            have hnum : (L.map Prod.fst)[i]? = some x.1 := by rw [← cutS_nums L bk, List.getElem?_map, hx]; rfl
            have hne : L ≠ [] := fun e => by have := HLC.out; rw [cutS_len, e] at this; simp at this; omega
            have hst := HS6.out.2 hne
            have hrise : Rising (upS (cutS L bk) i) := HG.out.rise.same ((upS_nums _ i).trans (cutS_nums L bk))
            have hx6 : x.1 ≤ 999999 := by
              have := List.mem_of_getElem? hnum
              obtain ⟨y, hy, e⟩ := List.mem_map.1 this
              rw [← e]
              exact (HG.out.rise.inn y hy).2
            obtain ⟨ad, hA, a0⟩ := ints_at (Q0.out _ _ hr.out.2.2).1.nums.lies (show (zs (L.map Prod.fst))[i]? = some (x.1 : Int) by unfold zs; rw [List.getElem?_map, hnum]; rfl)
            have HNM : Hid (∀ W, Below wr.heap.size wr W → Calls Tryz.prog 26 #[.pointer (some ⟨lb, 0, none⟩), .int .i64 (x.1 : Int)] W fun e w' => e = .returned (.string (seg p x.1)) ∧ Below W.heap.size W w') := Lib.hid (fun W hb => name_any B lb g x.1 _ W HP.out hx6 (hr.out.1.kept hb).lg (HT.out.on ((hr.out.2.1.below H.out.size_le (fun k hk => (H.out.owned k hk).1)).trans (hb.mono hr.out.1.size_le))) (hr.out.1.kept hb).size_le)
            have HSY : Hid (∀ W, Below wr.heap.size wr W → Calls Tryz.prog 27 #[.pointer (some ⟨g, 0, none⟩), .string (seg p x.1)] W fun e w' => e = .returned (.int .i64 0) ∧ LRest W B g lb dX p size ⟨{ s.m with fs := segFs p (upS (cutS L bk) (i + 1)) }, s.num, s.len⟩ w') := Lib.hid (fun W hb => by
              have e := sync_seg HP.out (m := { s.m with fs := segFs p (upS (cutS L bk) i) }) (L := upS (cutS L bk) i) ⟨hst.down, hst.left, hst.room⟩ rfl hrise (upS_get hx)
              rw [show (x.1, x.2.1, (x.2.1.length : Int)) = syn x from rfl, upS_step hx] at e
              refine (sync_vm B g dX _ _ 0 (seg p x.1) W (hr.out.1.kept hb).ps hr.out.1.vm (pre_size HP.out x.1) e).mono ?_
              rintro e w' ⟨rfl, hx'⟩
              exact ⟨rfl, (hr.out.1.kept hb).rest hx'⟩)
            have HCX := Lib.hid (fun (W : World) (hb : Below wr.heap.size wr W) => (hr.out.1.kept hb).lg.cell.1)
            generalize seg p x.1 = sg at HNM HSY
            subst hA
            clear hx hnum hne hst hrise hx6
            go_upto_region 18 with fail
            go_region_held3 (fun W => W.cell? ⟨lb, 0, none⟩ = some (.pointer (some ⟨g, 0, none⟩))) (first | exact E9.out.1.lg.cell.1 | exact HCX.out _ E8.out | exact HCX.out _ (Below.refl _ _) | exact HCX.out _ (Below.refl _ _).drew | go_keep) (first
              | (go_at_call 26; refine (HNM.out _ (by first | exact Below.refl _ _ | exact (Below.refl _ _).drew)).mono ?_; rintro e w8 ⟨rfl, hb⟩; have E8 : Hid (Below wr.heap.size wr w8) := Lib.hid ((by first | exact Below.refl _ _ | exact (Below.refl _ _).drew : Below wr.heap.size wr _).trans hb); clear hb)
              | (go_at_call 27; refine (HSY.out _ E8.out).mono ?_; rintro e w9 ⟨rfl, d9, hx9⟩; have E9 : Hid (LSt w9 B g lb d9 ⟨{ s.m with fs := segFs p (upS (cutS L bk) (i + 1)) }, s.num, s.len⟩ p size ∧ Does (lown dX g lb) (lown d9 g lb) wr w9) := Lib.hid ⟨hx9.1, (Does.of_below E8.out (fun _ hk => .inl hk)).trans hx9.2⟩; clear hx9))
            all_goals
              go_wp2_with fail
              go_roundw
              case rel => exact ⟨i + 1, d9, by omega, by go_num, Lib.hid ⟨E9.out.1, hr.out.2.1.trans E9.out.2, hr.out.2.2.does E9.out.2⟩⟩
              case measure => simp [intOf]; omega
          · obtain rfl : i = n := by omega
            have LX : Hid (LSt wr B g lb dX ⟨{ s.m with fs := segFs p (L.map fixS) }, s.num, s.len⟩ p size) := Lib.hid (by
              have e := hr.out.1
              rw [upS_all HLC.out, ← HS6.out.1] at e
              exact e)
            have T1 : Hid (LSt (wr.setCell ⟨lb, 3, none⟩ (.int .i64 1)) B g lb dX ⟨{ s.m with fs := segFs p (L.map fixS) }, 1, s.len⟩ p size ∧ Does (lown dX g lb) (lown dX g lb) wr (wr.setCell ⟨lb, 3, none⟩ (.int .i64 1))) := Lib.hid (LX.out.turn (s' := ⟨{ s.m with fs := segFs p (L.map fixS) }, 1, s.len⟩) rfl (LX.out.lg.setNum 1))
            have K1 := Lib.hid (hr.out.2.2.does T1.out.2)
            have V1 := Lib.hid (Q0.out _ _ K1.out)
            have cx3 := LX.out.lg.cell.2.2.2.1
            have f3 := LX.out.lg.frozen 3
            simp only at cx3
            by_cases h0 : i = 0
            · subst h0
              have HL0 : Hid (nextNo L = 1) := Lib.hid (by
                have e : L = [] := List.eq_nil_of_length_eq_zero (by have := HLC.out; rw [cutS_len] at this; exact this)
                rw [e]
                rfl)
              obtain ⟨y0, -, -, -⟩ := V1.out.1.f.cell
              go_wp2_with fail
              go_ret2
              exact ⟨T, A3, c3, m, dX, rfl, E3.out.1, E3.out.2.1, V1.out.1.seen.mono E1.out.2.size, V1.out.2, by rw [HL0.out]; exact T1.out.1, hr.out.2.1.trans T1.out.2⟩
            · obtain ⟨x, hx1, hx2⟩ := last_at HG.out.len (show 0 < i by omega)
              have HL0 : Hid (nextNo L = x.1 + 1) := Lib.hid (by unfold nextNo; rw [hx2])
              have hx6 := HG.out.rise.inn x (List.mem_of_getElem? hx1)
              obtain ⟨ad, hA, a0⟩ := ints_at V1.out.1.nums.lies (show (zs (L.map Prod.fst))[i - 1]? = some (x.1 : Int) by unfold zs; rw [List.getElem?_map, List.getElem?_map, hx1]; rfl)
              have T2 : Hid (LSt ((wr.setCell ⟨lb, 3, none⟩ (.int .i64 1)).setCell ⟨lb, 3, none⟩ (.int .i64 ((x.1 : Int) + 1))) B g lb dX ⟨{ s.m with fs := segFs p (L.map fixS) }, x.1 + 1, s.len⟩ p size ∧ Does (lown dX g lb) (lown dX g lb) (wr.setCell ⟨lb, 3, none⟩ (.int .i64 1)) ((wr.setCell ⟨lb, 3, none⟩ (.int .i64 1)).setCell ⟨lb, 3, none⟩ (.int .i64 ((x.1 : Int) + 1)))) := Lib.hid (by
                have e := T1.out.1.turn (s' := ⟨{ s.m with fs := segFs p (L.map fixS) }, x.1 + 1, s.len⟩) rfl (T1.out.1.lg.setNum (x.1 + 1))
                have e2 : (((x.1 + 1 : Nat) : Int)) = (x.1 : Int) + 1 := by omega
                rw [e2] at e
                exact e)
              have K2 := Lib.hid (K1.out.does T2.out.2)
              have V2 := Lib.hid (Q0.out _ _ K2.out)
              obtain ⟨y0, -, -, -⟩ := V2.out.1.f.cell
              have c4 := T1.out.1.lg.cell.2.2.2.1
              have f4 := T1.out.1.lg.frozen 3
              have hwr1 : IntKind.i64.wrap ((i : Int) - 1) = ((i - 1 : Nat) : Int) := by rw [IntKind.wrap_i64]; omega
              have hwr2 : IntKind.i64.wrap ((x.1 : Int) + 1) = (x.1 : Int) + 1 := by rw [IntKind.wrap_i64]; omega
              have hn1 : ((i - 1 : Nat) : Int) < (i : Int) := by omega
              have hn2 : i - 1 < i := by omega
              have hn3 : (0 : Int) < (i : Int) := by omega
              obtain ⟨n', hn'⟩ : ∃ n', i - 1 = n' := ⟨_, rfl⟩
              rw [hn'] at hwr1 hn1 hn2 a0
              obtain ⟨z, hz⟩ : ∃ z : Nat, x.1 = z := ⟨_, rfl⟩
              rw [hz] at a0 T2 V2 K2 y0 hwr2 HL0
              subst hA
              simp only at c4
              clear hx1 hx2 hx6 hn' h0 hz
              go_wp2_with fail
              go_ret2
              exact ⟨T, _, c3, m, dX, rfl, E3.out.1, E3.out.2.1, V2.out.1.seen.mono E1.out.2.size, V2.out.2, by rw [HL0.out]; exact T2.out.1, (hr.out.2.1.trans T1.out.2).trans T2.out.2⟩

end Go.Proofs.YtjppklgegpmfpaaGreatDoor
