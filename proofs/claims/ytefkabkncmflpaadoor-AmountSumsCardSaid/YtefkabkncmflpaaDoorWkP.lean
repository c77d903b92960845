/-
  Walks: stretches of a row that change places; a row that is turned.
-/
import Derived.Test.YtefkabkncmflpaaDoorWkG
import Derived.Test.YtefkabkncmflpaaDoorMerge
import Derived.BigRegion
namespace Go.Proofs.YtefkabkncmflpaaDoor
open Go.RowKit Go.Sort Go.Shelf

variable {m : Nat}

theorem add_wrap (a i : Nat) (h : a + i ≤ 4611686018427387904) : IntKind.i64.wrap ((a : Int) + (i : Int)) = ((a + i : Nat) : Int) := by
  rw [IntKind.wrap_i64]; omega

set_option maxRecDepth 100000 in
set_option maxHeartbeats 4000000 in
theorem swapRange_any (fv : Value) (blk cap M a b n k0 : Nat) (hM : m + 1 = M) (hm : M ≤ 1024) (d0 d : Array (Pl m)) (w : World) (hH : Holds encP w blk 0 d0) (h0 : d0.size = M) (hs : d.size = M) (h1 : a + n ≤ b) (h2 : b + n ≤ M) :
    Calls Tryd.prog 87 #[.slice (some ⟨blk, 0, none⟩) M cap, .int .i64 a, .int .i64 b, .int .i64 n, fv] ((putRow encP w blk 0 d).drewN k0) fun e w' =>
      e = .returned (.tuple #[]) ∧ ∃ (d' : Array (Pl m)) (k : Nat), w' = (putRow encP w blk 0 d').drewN k ∧ SwapR d d' a b n := by
  have HH := Lib.hid hH
  have H0 := Lib.hid h0
  have HS := Lib.hid hs
  have HM := Lib.hid hM
  clear hH h0 hs hM
  go_enter Tryd.func87, Tryd.ntmps87
  go_wp2_with fail
  go_loopw [10] (fun t10 wr => ∃ (t k : Nat) (dk : Array (Pl m)), t ≤ n ∧ t10 = .int .i64 t ∧ wr = (putRow encP w blk 0 dk).drewN k ∧ Hid (SwapR d dk a b t)) (fun t10 _ => n - (intOf t10).toNat)
  case atStart => exact ⟨0, k0, d, by omega, rfl, rfl, Lib.hid (SwapR.zero d a b)⟩
  case round =>
    obtain ⟨t, k, dk, ht, rfl, hwr, hsw⟩ := hrel
    by_cases hlt : t < n
    · have hti : (t : Int) < n := by omega
      have hsk : dk.size = M := by rw [hsw.out.1]; exact HS.out
      have hHj := holds_putRow encP w blk 0 d0 dk HH.out (by rw [hsk, H0.out])
      obtain ⟨ca, fa⟩ := hHj (a + t) (by omega)
      obtain ⟨cb, fb⟩ := hHj (b + t) (by omega)
      rw [Nat.zero_add] at ca fa cb fb
      have ca' : wr.cell? ⟨blk, a + t, none⟩ = some (encP dk[a + t]!) := by rw [hwr]; exact ca
      have cb' : wr.cell? ⟨blk, b + t, none⟩ = some (encP dk[b + t]!) := by rw [hwr]; exact cb
      have fa' : wr.frozen? ⟨blk, a + t, none⟩ = false := by rw [hwr]; exact fa
      have fb' : wr.frozen? ⟨blk, b + t, none⟩ = false := by rw [hwr]; exact fb
      have HW := Lib.hid hwr
      have HK := Lib.hid hsk
      clear ca cb fa fb hHj hwr hsk
      have ea := add_wrap a t (by omega)
      have eb := add_wrap b t (by omega)
      have en : IntKind.i64.wrap ((t : Int) + 1) = (t : Int) + 1 := IntWalk.i64_in _ (by omega)
      obtain ⟨p, hp⟩ : ∃ p, a + t = p := ⟨_, rfl⟩
      obtain ⟨q, hq⟩ : ∃ q, b + t = q := ⟨_, rfl⟩
      have HP := Lib.hid hp
      have HQ := Lib.hid hq
      have pq : p ≠ q := by omega
      have pM : p < M := by omega
      have qM : q < M := by omega
      have pMi : (p : Int) < M := by omega
      have qMi : (q : Int) < M := by omega
      rw [hp] at ca' fa' ea
      rw [hq] at cb' fb' eb
      have H12 := Lib.hid (And.intro h1 h2)
      clear hp hq h1 h2
      obtain ⟨x, hx⟩ : ∃ x, dk[p]! = x := ⟨_, rfl⟩
      obtain ⟨y, hy⟩ : ∃ y, dk[q]! = y := ⟨_, rfl⟩
      rw [hx] at ca'
      rw [hy] at cb'
      unfold encP at ca' cb'
      have HX := Lib.hid (And.intro hx hy)
      clear hx hy
      go_wp2_with fail
      go_region
      all_goals go_wp2_with fail
      go_roundw
      case rel =>
        have sz := HK.out
        have e0 := HP.out
        have e1 := HQ.out
        have h12 := H12.out
        refine ⟨t + 1, k + 1, swp dk (a + t) (b + t), by omega, by go_num, ?_, Lib.hid (hsw.out.succ (by omega) (by rw [HS.out]; omega))⟩
        have := swap_worldC encP w blk 0 dk k (a + t) (b + t) (by omega) (by omega)
        rw [Nat.zero_add, Nat.zero_add, e0, e1, HX.out.1, HX.out.2] at this
        rw [e0, e1, HW.out]
        exact this
      case measure => simp [intOf]; omega
    · obtain rfl : t = n := by omega
      have HW := Lib.hid hwr
      clear hwr
      go_wp2_with fail
      go_end0
      exact ⟨rfl, dk, k, HW.out, hsw.out⟩

set_option maxRecDepth 100000 in
set_option maxHeartbeats 4000000 in
theorem rotate_any (fv : Value) (blk cap M a q b k0 : Nat) (hM : m + 1 = M) (hm : M ≤ 1024) (d0 d : Array (Pl m)) (w : World) (hH : Holds encP w blk 0 d0) (h0 : d0.size = M) (hs : d.size = M) (h1 : a < q) (h2 : q < b) (h3 : b ≤ M) :
    Calls Tryd.prog 86 #[.slice (some ⟨blk, 0, none⟩) M cap, .int .i64 a, .int .i64 q, .int .i64 b, fv] ((putRow encP w blk 0 d).drewN k0) fun e w' =>
      e = .returned (.tuple #[]) ∧ ∃ (d' : Array (Pl m)) (k : Nat), w' = (putRow encP w blk 0 d').drewN k ∧ Turned d d' a q b := by
  have SW := Lib.hid (fun (x y n k : Nat) (dk : Array (Pl m)) (hk : dk.size = M) (g1 : x + n ≤ y) (g2 : y + n ≤ M) => swapRange_any fv blk cap M x y n k hM hm d0 dk w hH h0 hk g1 g2)
  have HS := Lib.hid hs
  clear hH h0 hs hM
  have ei : IntKind.i64.wrap ((q : Int) - (a : Int)) = ((q - a : Nat) : Int) := by rw [IntKind.wrap_i64]; omega
  have ej : IntKind.i64.wrap ((b : Int) - (q : Int)) = ((b - q : Nat) : Int) := by rw [IntKind.wrap_i64]; omega
  have ei' : (q : Int) - (a : Int) = ((q - a : Nat) : Int) := by omega
  have ej' : (b : Int) - (q : Int) = ((b - q : Nat) : Int) := by omega
  have LS := Lib.hid (Left.start d a q b (by omega) (by omega))
  go_enter Tryd.func86, Tryd.ntmps86
  go_wp2_with fail
  go_loopw [10, 11] (fun t10 t11 wr => ∃ (i j k : Nat) (dk : Array (Pl m)), 1 ≤ i ∧ 1 ≤ j ∧ i ≤ q - a ∧ j ≤ b - q ∧ t10 = .int .i64 i ∧ t11 = .int .i64 j ∧ wr = (putRow encP w blk 0 dk).drewN k ∧ Hid (Left d dk a q b i j)) (fun t10 t11 _ => (intOf t10).toNat + (intOf t11).toNat)
  case atStart => exact ⟨q - a, b - q, k0, d, by omega, by omega, by omega, by omega, by first | rfl | simp [ei'], by first | rfl | simp [ej'], rfl, LS⟩
  case round =>
    obtain ⟨i, j, k, dk, i1, j1, iq, jb, rfl, rfl, hwr, hl⟩ := hrel
    clear ei ej ei' ej' LS
    have HW := Lib.hid hwr
    clear hwr
    have hsk : Hid (dk.size = M) := Lib.hid (by rw [hl.out.1]; exact HS.out)
    have iq' : i ≤ q := by omega
    have jM : q + j ≤ M := by omega
    have x1 : (q : Int) - (i : Int) = ((q - i : Nat) : Int) := by omega
    have x2 : (q : Int) + (j : Int) - (i : Int) = ((q + j - i : Nat) : Int) := by omega
    have M1 : (M : Int) ≤ 1024 := by omega
    by_cases hij : i = j
    · subst hij
      have S := Lib.hid (SW.out (q - i) q i k dk hsk.out (by omega) (by omega))
      go_wp2_with (go_at_call 87; rw [HW.out]; refine S.out.mono ?_; rintro e w' ⟨rfl, dl, kl, hw, hs⟩; have HWl := Lib.hid hw; have HSl := Lib.hid hs; clear hw hs)
      go_end0
      exact ⟨rfl, dl, kl, HWl.out, hl.out.same iq' HSl.out⟩
    · have hne : ((i : Int) != (j : Int)) = true := by simp; omega
      by_cases hlt : j < i
      · have hlti : (j : Int) < i := by omega
        have S := Lib.hid (SW.out (q - i) q j k dk hsk.out (by omega) (by omega))
        have x3 : (i : Int) - (j : Int) = ((i - j : Nat) : Int) := by omega
        go_wp2_with (go_at_call 87; rw [HW.out]; refine S.out.mono ?_; rintro e w' ⟨rfl, dl, kl, hw, hs⟩; have HWl := Lib.hid hw; have HSl := Lib.hid hs; clear hw hs)
        go_roundw
        case rel => exact ⟨i - j, j, kl, dl, by omega, j1, by omega, jb, by first | rfl | simp [x3], rfl, HWl.out, Lib.hid (hl.out.more hlt iq' HSl.out)⟩
        case measure => simp [intOf]; omega
      · have hlti : ¬ (j : Int) < i := by omega
        have S := Lib.hid (SW.out (q - i) (q + j - i) i k dk hsk.out (by omega) (by omega))
        have x3 : (j : Int) - (i : Int) = ((j - i : Nat) : Int) := by omega
        go_wp2_with (go_at_call 87; rw [HW.out]; refine S.out.mono ?_; rintro e w' ⟨rfl, dl, kl, hw, hs⟩; have HWl := Lib.hid hw; have HSl := Lib.hid hs; clear hw hs)
        go_roundw
        case rel => exact ⟨i, j - i, kl, dl, i1, by omega, iq, by omega, rfl, by first | rfl | simp [x3], HWl.out, Lib.hid (hl.out.less (by omega) iq' HSl.out)⟩
        case measure => simp [intOf]; omega

end Go.Proofs.YtefkabkncmflpaaDoor
