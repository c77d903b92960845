/-
  Walks: the stable sort, greatestFirst, at any length up to 1024 places.
-/
import Derived.Test.YtefkabkncmflpaaDoorWkZ
namespace Go.Proofs.YtefkabkncmflpaaDoor
open Go.RowKit Go.Sort Go.Shelf

variable {m : Nat}

theorem int_eq {k : IntKind} {a b : Int} (h : a = b) : Value.int k a = .int k b := by rw [h]
/-- Behind the sort: all places, sorted. -/
def Sorted (r : Pl m → Int) (w : World) (blk M : Nat) (e : Ending) (w' : World) : Prop :=
  e = .returned (.tuple #[]) ∧ ∃ (d' : Array (Pl m)) (n : Nat), w' = (putRow encP w blk 0 d').drewN n ∧ d'.size = M ∧ Blk d' 0 M ∧ Srt r d' 0 M

/-- Behind so many insertions. -/
structure Ins (r : Pl m → Int) (d : Array (Pl m)) (M a : Nat) : Prop where
  sz : d.size = M
  at20 : a % 20 = 0
  done : ∀ u, u * 20 + 20 ≤ a → Bl r d M 20 (u * 20)
  ids : ∀ p, a ≤ p → p < M → d[p]!.val = p
theorem Ins.next {r : Pl m → Int} {d d' : Array (Pl m)} {M a : Nat} (h : Ins r d M a) (hb : a + 20 ≤ M) (e : Else d d' a (a + 20)) (k : Blk d' a (a + 20)) (s : Srt r d' a (a + 20)) : Ins r d' M (a + 20) := by
  have h20 := h.at20
  refine ⟨e.1.trans h.sz, by omega, fun u hu => ?_, fun p h1 h2 => by rw [e.2 p (by omega)]; exact h.ids p (by omega) h2⟩
  by_cases x : u * 20 = a
  · rw [x]; unfold Bl; rw [show min (a + 20) M = a + 20 by omega]; exact ⟨k, s⟩
  · exact (h.done u (by omega)).else e (by omega)
theorem Ins.last {r : Pl m → Int} {d d' : Array (Pl m)} {M a : Nat} (h : Ins r d M a) (hb : M < a + 20) (e : Else d d' a M) (k : Blk d' a M) (s : Srt r d' a M) : Qs r d' M 20 := fun t ht => by
  have h20 := h.at20
  by_cases x : t * 20 = a
  · rw [x]; unfold Bl; rw [show min (a + 20) M = M by omega]; exact ⟨k, s⟩
  · exact (h.done t (by omega)).else e (by omega)

set_option maxRecDepth 100000 in
set_option maxHeartbeats 8000000 in
theorem stable_any (r : Pl m → Int) (cf : Pl m → Pl m → Int) (hcf : ∀ x y, ltOf cf x y = decide (r y < r x)) (g : Nat) (cb : Array Value) (blk cap M : Nat) (hM : m + 1 = M) (d0 : Array (Pl m)) (w : World) (hm : M ≤ 1024) (hblk : blk < w.heap.size)
    (eg : ∀ args w, (callFunc g args).run Tryd.prog w = .ok (.enter g args) w) (hcmp : CmpReads Tryd.prog g cb encP cf blk 0 M w) (hH : Holds encP w blk 0 d0) (hs : d0.size = M) (hid : ∀ p, p < M → d0[p]!.val = p) :
    Calls Tryd.prog 69 #[.slice (some ⟨blk, 0, none⟩) M cap, .int .i64 (M : Int), .func (.func g) #[] cb] w (Sorted r w blk M) := by
  have SYM := Lib.hid (fun (a q b k : Nat) (d : Array (Pl m)) h1 h2 h3 h4 h5 => sym_all r cf hcf g cb blk cap M hM hm d0 w eg hcmp hH hs (b - a) a q b k d (Nat.le_refl _) h1 h2 h3 h4 h5)
  have INS := Lib.hid (fun (a b k : Nat) (d : Array (Pl m)) (h1 : d.size = M) (h2 : a ≤ b) (h3 : b ≤ M) h4 => ins_any r cf hcf g cb blk cap M a b k hm d0 d w hblk eg hcmp hH hs h1 h2 h3 h4)
  have HST : Hid (w = (putRow encP w blk 0 d0).drewN 0) := Lib.hid (putRow_self encP w blk 0 d0 hH).symm
  have I0 : Hid (Ins r d0 M 0) := Lib.hid ⟨hs, rfl, fun u hu => by omega, fun p _ hp => hid p hp⟩
  have M1 : (M : Int) ≤ 1024 := by omega
  have Mp : 1 ≤ M := by omega
  clear hcf eg hcmp hH hs hid hM
  go_enter Tryd.func69, Tryd.ntmps69
  go_wp2_with fail
  go_loopw [7, 8] (fun t7 t8 wr => ∃ (a k : Nat) (dk : Array (Pl m)), a ≤ M ∧ t7 = .int .i64 a ∧ t8 = .int .i64 ((a : Int) + 20) ∧ wr = (putRow encP w blk 0 dk).drewN k ∧ Hid (Ins r dk M a)) (fun t7 _ _ => M - (intOf t7).toNat)
  case atStart => exact ⟨0, 0, d0, by omega, rfl, rfl, HST.out, I0⟩
  case round =>
    obtain ⟨a, k, dk, aM, rfl, rfl, hwr, hin⟩ := hrel
    have HW := Lib.hid hwr
    clear hwr
    have aMi : (a : Int) ≤ 1024 := by omega
    have e20 : (a : Int) + 20 = ((a + 20 : Nat) : Int) := by omega
    by_cases hlt : a + 20 ≤ M
    · have hlti : (a : Int) + 20 ≤ M := by omega
      have S0 := INS.out a (a + 20) k dk hin.out.sz (by omega) hlt (fun p h1 h2 => hin.out.ids p h1 (by omega))
      rw [← e20] at S0
      have S := Lib.hid S0
      clear S0 e20
      go_wp2_with (go_at_call 80; rw [HW.out]; refine S.out.mono ?_; rintro e w' ⟨rfl, d', k', hw, h1, h2, h3⟩; have HW1 := Lib.hid hw; have HT1 := Lib.hid (And.intro h1 (And.intro h2 h3)); clear hw h1 h2 h3)
      go_roundw
      case rel => exact ⟨a + 20, k', d', hlt, by go_num, by go_num, HW1.out, Lib.hid (hin.out.next hlt HT1.out.1 HT1.out.2.1 HT1.out.2.2)⟩
      case measure => simp [intOf]; omega
    · have hlti : ¬ (a : Int) + 20 ≤ M := by omega
      clear e20
      have S := Lib.hid (INS.out a M k dk hin.out.sz aM (Nat.le_refl _) (fun p h1 h2 => hin.out.ids p h1 h2))
      have LAST := Lib.hid (fun (d' : Array (Pl m)) h1 h2 h3 => hin.out.last (d' := d') (by omega) h1 h2 h3)
      have SZ := Lib.hid hin.out.sz
      clear hin
      go_wp2_with (go_at_call 80; rw [HW.out]; refine S.out.mono ?_; rintro e w' ⟨rfl, d1, k1, hw, h1, h2, h3⟩; have HW1 := Lib.hid hw; have HQ1 := Lib.hid (LAST.out d1 h1 h2 h3); have SZ1 := Lib.hid (h1.1.trans SZ.out); clear hw h1 h2 h3)
      clear HW LAST
      go_loopw [6] (fun t6 wr => ∃ (s k : Nat) (dk : Array (Pl m)), 20 ≤ s ∧ s ≤ 2048 ∧ t6 = .int .i64 s ∧ wr = (putRow encP w blk 0 dk).drewN k ∧ Hid (dk.size = M) ∧ Hid (Qs r dk M s)) (fun t6 _ => 4096 - (intOf t6).toNat)
      case atStart => exact ⟨20, k1, d1, by omega, by omega, rfl, HW1.out, SZ1, HQ1⟩
      case round =>
        obtain ⟨s, k2, d2, s20, s20', rfl, hwr2, hsz, hq⟩ := hrel
        have HW2 := Lib.hid hwr2
        clear hwr2
        by_cases hsM : s < M
        · have hsMi : (s : Int) < M := by omega
          have si : (s : Int) ≤ 1024 := by omega
          have P0 := Lib.hid (Ps.start hq.out)
          go_wp2_with fail
          go_loopw [7, 8] (fun t7 t8 wr => ∃ (t c k : Nat) (dk : Array (Pl m)), t * (2 * s) = c ∧ c ≤ M ∧ t7 = .int .i64 c ∧ t8 = .int .i64 ((c : Int) + 2 * (s : Int)) ∧ wr = (putRow encP w blk 0 dk).drewN k ∧ Hid (dk.size = M) ∧ Hid (Ps r dk M s t)) (fun t7 _ _ => M - (intOf t7).toNat)
          case atStart => exact ⟨0, 0, k2, d2, by omega, by omega, rfl, int_eq (by simp), HW2.out, hsz, P0⟩
          case round =>
            obtain ⟨t, c, k3, d3, hc, cM, rfl, rfl, hwr3, hsz3, hP⟩ := hrel
            have HW3 := Lib.hid hwr3
            have HCC := Lib.hid hc
            clear hwr3 hc
            have cMi : (c : Int) ≤ M := by omega
            by_cases hcb : c + 2 * s ≤ M
            · have hcbi : (c : Int) + 2 * (s : Int) ≤ M := by omega
              have TW := Lib.hid (hP.out.two (b := c + 2 * s) (by rw [HCC.out]; omega) (by rw [HCC.out]; omega)).1
              have S0 := SYM.out c (c + s) (c + 2 * s) k3 d3 (by omega) (by omega) hcb hsz3.out (by have := TW.out; rw [HCC.out] at this; exact this)
              rw [show ((c + s : Nat) : Int) = (c : Int) + s by omega, show ((c + 2 * s : Nat) : Int) = (c : Int) + 2 * s by omega] at S0
              have S := Lib.hid S0
              clear S0
              go_wp2_with (go_at_call 81; rw [HW3.out]; refine S.out.mono ?_; rintro e w' ⟨rfl, d4, k4, hw, h1, h2⟩; have HW4 := Lib.hid hw; have HT4 := Lib.hid (And.intro h1 h2); clear hw h1 h2)
              go_roundw
              case rel =>
                refine ⟨t + 1, c + 2 * s, k4, d4, by rw [Nat.succ_mul, HCC.out], hcb, int_eq (by omega), int_eq (by omega), HW4.out, Lib.hid (HT4.out.1.els.1.trans hsz3.out), Lib.hid ?_⟩
                have hn := hP.out.next (d' := d4) (b := c + 2 * s) (by rw [HCC.out]; omega) (by rw [HCC.out]; omega)
                rw [HCC.out] at hn
                exact hn HT4.out.1 HT4.out.2
              case measure => simp [intOf]; omega
            · have hcbi : ¬ (c : Int) + 2 * (s : Int) ≤ M := by omega
              by_cases hcm : c + s < M
              · have hcmi : (c : Int) + (s : Int) < M := by omega
                have TW := Lib.hid (hP.out.two (b := M) (by rw [HCC.out]; omega) (by rw [HCC.out]; omega)).1
                have S0 := SYM.out c (c + s) M k3 d3 (by omega) hcm (Nat.le_refl _) hsz3.out (by have := TW.out; rw [HCC.out] at this; exact this)
                rw [show ((c + s : Nat) : Int) = (c : Int) + s by omega] at S0
                have S := Lib.hid S0
                clear S0
                go_wp2_with (go_at_call 81; rw [HW3.out]; refine S.out.mono ?_; rintro e w' ⟨rfl, d4, k4, hw, h1, h2⟩; have HW4 := Lib.hid hw; have HT4 := Lib.hid (And.intro h1 h2); clear hw h1 h2)
                go_roundw
                case rel =>
                  refine ⟨2 * s, k4, d4, by omega, by omega, int_eq (by omega), HW4.out, Lib.hid (HT4.out.1.els.1.trans hsz3.out), Lib.hid ?_⟩
                  have hn := hP.out.next (d' := d4) (b := M) (by rw [HCC.out]; omega) (by rw [HCC.out]; omega)
                  rw [HCC.out] at hn
                  refine (hn HT4.out.1 HT4.out.2).done ?_
                  rw [Nat.succ_mul, HCC.out]; omega
                case measure => simp [intOf]; omega
              · have hcmi : ¬ (c : Int) + (s : Int) < M := by omega
                go_wp2_with fail
                go_roundw
                case rel => exact ⟨2 * s, k3, d3, by omega, by omega, int_eq (by omega), HW3.out, hsz3, Lib.hid (hP.out.done (by rw [HCC.out]; omega))⟩
                case measure => simp [intOf]; omega
        · have hsMi : ¬ (s : Int) < M := by omega
          have si : (s : Int) ≤ 2048 := by omega
          go_wp2_with fail
          go_end0
          have q0 := hq.out 0 (by omega)
          unfold Bl at q0
          rw [show min (0 * s + s) M = M by omega, Nat.zero_mul] at q0
          exact ⟨rfl, d2, k2, HW2.out, hsz.out, q0.1, q0.2⟩

end Go.Proofs.YtefkabkncmflpaaDoor
