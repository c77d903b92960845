/-
  Walks: a log opened.
-/
import Derived.Test.YtjppklgegpmfpaaGreatDoorWgL
namespace Go.Proofs.YtjppklgegpmfpaaGreatDoor
open Go.RowKit
open Go.Maps

set_option maxHeartbeats 2000000 in
theorem isPrefix_any (s : ByteArray) (w : World) (hp : IsPre s) :
    Calls Tryz.prog 20 #[.string s] w fun e w' => e = .returned (.bool true) ∧ w = w' := by
  have h1 := hp.low
  have h2 := hp.high
  have HL := Lib.hid hp.letter
  have d0 : ((s.size : Int) == 0) = false := by simpa using (by omega : (s.size : Int) ≠ 0)
  have d1 : decide (8 < (s.size : Int)) = false := by simp; omega
  clear hp
  go_enter Tryz.func20, Tryz.ntmps20
  go_wp2_with fail
  go_loop [14] (fun t14 => ∃ k : Nat, k ≤ s.size ∧ t14 = .int .i64 k) (fun t14 => s.size - (intOf t14).toNat)
  case atStart => exact ⟨0, by omega, rfl⟩
  case round =>
    obtain ⟨k, hk, rfl⟩ := hrel
    by_cases hlt : k < s.size
    · have hx := nums_get s k hlt
      have hb := HL.out _ (List.mem_of_getElem? hx)
      obtain ⟨x, hx2⟩ : ∃ x, s[k].toNat = x := ⟨_, rfl⟩
      have hlx : s[k].toNat < 256 := s[k].toNat_lt
      rw [hx2] at hb
      have e1 : decide ((x : Int) < 97) = false := by simp; omega
      have e2 : decide ((122 : Int) < (x : Int)) = false := by simp; omega
      clear hx hlx
      go_wp2_with fail
      go_round
      case rel => exact ⟨k + 1, by omega, by go_num⟩
      case measure => simp [intOf]; omega
    · obtain rfl : k = s.size := by omega
      go_wp2_with fail
      go_ret
      exact ⟨rfl, rfl⟩

/-- What opening answers and leaves. -/
def OpenTo (w : World) (B g : Nat) (d : Pk) (m : Vm) (p : ByteArray) (size : Nat) (L : List Sg) (e : Ending) (w' : World) : Prop :=
  ∃ lb T A c k d', e = .returned (.tuple #[.pointer (some ⟨lb, 0, none⟩), .slice A k c, .int .i64 0]) ∧ T.length = k ∧ byts T = pays (L.map (fun x => x.2.1)) ∧ Seen w' w.heap.size A c T ∧ (∀ j, RB A T j → ¬ lown d' g lb j) ∧
    LSt w' B g lb d' ⟨{ m with fs := segFs p (L.map fixS) }, nextNo L, 0⟩ p size ∧ Does (d.own g) (lown d' g lb) w w' ∧ w.heap.size ≤ lb

set_option maxRecDepth 100000 in
set_option maxHeartbeats 4000000 in
theorem open_any (B g : Nat) (d : Pk) (m : Vm) (p : ByteArray) (size n : Nat) (L : List Sg) (w : World) (h : PSt w B g d) (hv : d.vm = m) (hp : IsPre p) (hz : 1 ≤ size ∧ size ≤ 1048576) (hT : Tab B w) (hg : Found ⟨m, 0, 0⟩ p L n) (hno : nextNo L ≤ 999999) :
    Calls Tryz.prog 10 #[.pointer (some ⟨g, 0, none⟩), .string p, .int .i64 (size : Int)] w (OpenTo w B g d m p size L) := by
  have hBw : B ≤ w.heap.size := by have := h.low; have := h.at_.lt; omega
  have HI := Lib.hid (isPrefix_any p w hp)
  have HCL := Lib.hid (strClone_any p w (by have := hp.high; omega))
  have z1 : decide ((size : Int) < 1) = false := by simp; omega
  have z2 : decide ((1048576 : Int) < (size : Int)) = false := by simp; omega
  have HS : Hid (∀ W, Below w.heap.size w W → LSt (W.alloc (.cells #[.pointer (some ⟨g, 0, none⟩), .string p, .int .i64 (size : Int), .int .i64 0, .int .i64 0] 57)) B g W.heap.size d ⟨m, 0, 0⟩ p size) := Lib.hid (fun W hb => by
    refine ⟨(h.kept hb).kept (below_new W _), hv, heap_alloc_new W _, Nat.le_trans hBw hb.size, fun hk => ?_⟩
    have := (h.owned _ hk).2
    have := hb.size
    omega)
  have HR : Hid (∀ W, Below w.heap.size w W → Calls Tryz.prog 22 #[.pointer (some ⟨W.heap.size, 0, none⟩)] (W.alloc (.cells #[.pointer (some ⟨g, 0, none⟩), .string p, .int .i64 (size : Int), .int .i64 0, .int .i64 0] 57)) (RestoredTo (W.alloc (.cells #[.pointer (some ⟨g, 0, none⟩), .string p, .int .i64 (size : Int), .int .i64 0, .int .i64 0] 57)) B g W.heap.size d ⟨m, 0, 0⟩ p size L)) := Lib.hid (fun W hb =>
    restore_any B g W.heap.size d ⟨m, 0, 0⟩ p size n L _ (HS.out W hb) hp ((hT.on (hb.mono hBw)).on ((below_new W _).mono (Nat.le_trans hBw hb.size))) hg)
  have HNO := Lib.hid hno
  have HPS := Lib.hid (And.intro h hBw)
  clear h hv hp hz hT hg hno
  go_enter Tryz.func10, Tryz.ntmps10
  go_upto_region 9 with (first
    | (go_at_call 20; refine HI.out.mono ?_; rintro e w1 ⟨rfl, hw⟩; subst hw)
    | (go_at_call 21; refine HCL.out.mono ?_; rintro e w1 ⟨rfl, hb⟩; have B1 := Lib.hid hb; clear hb)
    | (go_at_call 22; refine (HR.out _ B1.out).mono ?_; rintro e w2 ⟨T, A, c, k, d', rfl, hk, ht, hs, ho, hl, hd⟩; have E2 := Lib.hid (And.intro hk (And.intro ht (And.intro hs (And.intro ho (And.intro hl hd))))); clear hk ht hs ho hl hd))
  have c3 := E2.out.2.2.2.2.1.lg.cell.2.2.2.1
  simp only at c3
  have hn9 : decide ((999999 : Int) < ((nextNo L : Nat) : Int)) = false := by have := HNO.out; simp; omega
  go_wp2_with fail
  go_ret3
  obtain ⟨hk, ht, hs, ho, hl, hd⟩ := E2.out
  refine ⟨w1.heap.size, T, A, c, k, d', rfl, hk, ht, hs.mono (by have := B1.out.size; simp; omega), ho, hl, ?_, B1.out.size⟩
  refine Does.trans (Does.of_below (B1.out.alloc B1.out.size _) (fun j hj => ?_)) hd
  rcases hj with hj | rfl
  · exact .inl hj
  · exact .inr B1.out.size

theorem open_nil (p : ByteArray) (size : Int) (w : World) : Calls Tryz.prog 10 #[.pointer none, .string p, .int .i64 size] w fun e w' => e = .returned (.tuple #[.pointer none, .slice none 0 0, .int .i64 1]) ∧ w = w' := by
  go_enter Tryz.func10, Tryz.ntmps10
  go_wp2
  go_ret3
  exact ⟨rfl, rfl⟩
theorem appendLog_nil (v : Value) (w : World) : Calls Tryz.prog 11 #[.pointer none, v] w fun e w' => e = .returned (.int .i64 1) ∧ w = w' := by
  go_enter Tryz.func11, Tryz.ntmps11
  go_wp2
  go_ret
  exact ⟨rfl, rfl⟩
theorem syncLog_nil (w : World) : Calls Tryz.prog 12 #[.pointer none] w fun e w' => e = .returned (.int .i64 1) ∧ w = w' := by
  go_enter Tryz.func12, Tryz.ntmps12
  go_wp2
  go_ret
  exact ⟨rfl, rfl⟩
theorem dropLog_nil (v : Value) (w : World) : Calls Tryz.prog 17 #[.pointer none, v] w fun e w' => e = .returned (.int .i64 1) ∧ w = w' := by
  go_enter Tryz.func17, Tryz.ntmps17
  go_wp2
  go_ret
  exact ⟨rfl, rfl⟩
theorem segment_nil (w : World) : Calls Tryz.prog 16 #[.pointer none] w fun e w' => e = .returned (.int .i64 0) ∧ w = w' := by
  go_enter Tryz.func16, Tryz.ntmps16
  go_wp2
  go_ret
  exact ⟨rfl, rfl⟩

end Go.Proofs.YtjppklgegpmfpaaGreatDoor
