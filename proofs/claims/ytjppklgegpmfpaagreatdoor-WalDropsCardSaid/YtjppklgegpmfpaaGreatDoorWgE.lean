/-
  Walks: the next segment's number; one segment on; a record put behind the others.
-/
import Derived.Test.YtjppklgegpmfpaaGreatDoorWgD
namespace Go.Proofs.YtjppklgegpmfpaaGreatDoor
open Go.RowKit
open Go.Maps

set_option maxRecDepth 100000 in
set_option maxHeartbeats 2000000 in
theorem segment_any (lb g v : Nat) (l : Lg) (w : World) (h : LgAt w lb g l) (hv : (if l.size ≤ l.len then l.num + 1 else l.num) = v) (hn : l.num ≤ 1000000) :
    Calls Tryz.prog 16 #[.pointer (some ⟨lb, 0, none⟩)] w fun e w' => e = .returned (.int .i64 (v : Int)) ∧ Below w.heap.size w w' := by
  have HI := Lib.hid (isFull_any lb g l w h)
  have HC := Lib.hid (fun (W : World) (hb : Below w.heap.size w W) => (h.kept hb).cell.2.2.2.1)
  obtain ⟨p, size, num, len⟩ := l
  simp only at hv HI HC hn
  clear h
  by_cases hf : size ≤ len
  · have hd : decide (size ≤ len) = true := by simpa using hf
    rw [if_pos hf] at hv
    rw [hd] at HI
    have HV : Hid ((num : Int) + 1 = (v : Int)) := Lib.hid (by omega)
    have hwr : IntKind.i64.wrap ((num : Int) + 1) = (num : Int) + 1 := by rw [IntKind.wrap_i64]; omega
    clear hv hf hd
    go_enter Tryz.func16, Tryz.ntmps16
    go_upto_region 4 with (go_at_call 31; refine HI.out.mono ?_; rintro e w1 ⟨rfl, hb⟩; have B1 := Lib.hid hb; have hcell := HC.out _ hb; clear hb)
    go_wp2_with fail
    go_ret
    exact ⟨by rw [HV.out]; rfl, B1.out⟩
  · have hd : decide (size ≤ len) = false := by simpa using hf
    rw [if_neg hf] at hv
    rw [hd] at HI
    subst hv
    clear hf hd
    go_enter Tryz.func16, Tryz.ntmps16
    go_wp2_with (go_at_call 31; refine HI.out.mono ?_; rintro e w1 ⟨rfl, hb⟩; have B1 := Lib.hid hb; have hcell := HC.out _ hb; clear hb)
    go_ret
    exact ⟨rfl, B1.out⟩

def Ls.advance (p : ByteArray) (size : Nat) (s : Ls) : Ls × Int := if s.len < size then (s, 0) else if (s.sync p).2 ≠ 0 then s.sync p else (⟨(s.sync p).1.m, s.num + 1, 0⟩, 0)
theorem sync_num (p : ByteArray) (s : Ls) : (s.sync p).1.num = s.num ∧ (s.sync p).1.len = s.len := by
  unfold Ls.sync
  split <;> exact ⟨rfl, rfl⟩

set_option maxRecDepth 100000 in
set_option maxHeartbeats 2000000 in
theorem advance_any (B g lb : Nat) (d : Pk) (s s' : Ls) (p : ByteArray) (size : Nat) (r : Int) (w : World) (h : LSt w B g lb d s p size) (hp : IsPre p) (hn : s.num ≤ 999999) (hT : Tab B w) (hr : s.advance p size = (s', r)) :
    Calls Tryz.prog 24 #[.pointer (some ⟨lb, 0, none⟩)] w fun e w' => e = .returned (.int .i64 r) ∧ LRest w B g lb d p size s' w' := by
  have H := Lib.hid h
  have HI := Lib.hid (isFull_any lb g _ w h.lg)
  obtain ⟨s1, r1, h1⟩ : ∃ s1 r1, s.sync p = (s1, r1) := ⟨_, _, rfl⟩
  have HS := Lib.hid (fun (W : World) (hb : Below w.heap.size w W) => syncLog_any B g lb d s s1 p size r1 W (h.kept hb) hp hn (hT.on (hb.mono h.size_le)) h1)
  have hn1 : s1.num = s.num := by have := (sync_num p s).1; rw [h1] at this; exact this
  by_cases hf : size ≤ s.len
  · have hd : decide (size ≤ s.len) = true := by simpa using hf
    simp only at HI
    rw [hd] at HI
    by_cases h0 : r1 = 0
    · subst h0
      have hs : Hid (s' = ⟨s1.m, s.num + 1, 0⟩ ∧ r = 0) := Lib.hid (by
        unfold Ls.advance at hr
        rw [if_neg (by omega)] at hr
        simp only [h1] at hr
        rw [if_neg (by simp)] at hr
        exact ⟨(congrArg Prod.fst hr).symm, (congrArg Prod.snd hr).symm⟩)
      have HN1 := Lib.hid hn1
      have HNN := Lib.hid hn
      clear h hr h1 hf hd hn1 hn
      go_enter Tryz.func24, Tryz.ntmps24
      go_upto_region 6 with (first
        | (go_at_call 31; refine HI.out.mono ?_; rintro e w1 ⟨rfl, hb⟩; have B1 := Lib.hid hb; clear hb)
        | (go_at_call 12; refine (HS.out _ B1.out).mono ?_; rintro e w2 ⟨rfl, d2, hb⟩; have E2 := Lib.hid hb; clear hb))
      obtain ⟨m1, n1, l1⟩ := s1
      have hz := HN1.out
      simp only at hz
      subst hz
      have HT3 := Lib.hid (E2.out.1.lg.setNum (s.num + 1))
      have hT4 := E2.out.1.turn (s' := ⟨m1, s.num + 1, l1⟩) rfl HT3.out
      have T4 := Lib.hid hT4
      have c3 := E2.out.1.lg.cell.2.2.2.1
      have f3 := E2.out.1.lg.frozen 3
      have e1 : (((s.num + 1 : Nat) : Int)) = (s.num : Int) + 1 := by omega
      have hwr : IntKind.i64.wrap ((s.num : Int) + 1) = (s.num : Int) + 1 := by have := HNN.out; rw [IntKind.wrap_i64]; omega
      rw [e1] at T4 HT3
      have f4 := T4.out.1.lg.frozen 4
      have c4 := T4.out.1.lg.cell.2.2.2.2
      have T5 := Lib.hid (T4.out.1.turn (s' := ⟨m1, s.num + 1, 0⟩) rfl (T4.out.1.lg.setLen 0))
      clear hT4 e1
      simp only at c3 c4
      go_wp2_with fail
      go_ret
      obtain ⟨rfl, rfl⟩ := hs.out
      refine ⟨rfl, LRest.trans ⟨H.out.kept B1.out, Does.of_below B1.out (fun _ hk => .inl hk)⟩ ⟨d2, T5.out.1, (E2.out.2.trans T4.out.2).trans T5.out.2⟩⟩
    · have hs : Hid (s' = s1 ∧ r = r1) := Lib.hid (by
        unfold Ls.advance at hr
        rw [if_neg (by omega)] at hr
        simp only [h1] at hr
        rw [if_pos h0] at hr
        exact ⟨(congrArg Prod.fst hr).symm, (congrArg Prod.snd hr).symm⟩)
      have c0 : (r1 != 0) = true := by simpa using h0
      clear h hr h1 hf hd hn1 hn h0
      go_enter Tryz.func24, Tryz.ntmps24
      go_wp2_with (first
        | (go_at_call 31; refine HI.out.mono ?_; rintro e w1 ⟨rfl, hb⟩; have B1 := Lib.hid hb; clear hb)
        | (go_at_call 12; refine (HS.out _ B1.out).mono ?_; rintro e w2 ⟨rfl, hb⟩; have E2 := Lib.hid hb; clear hb))
      go_ret
      obtain ⟨rfl, rfl⟩ := hs.out
      exact ⟨rfl, LRest.trans ⟨H.out.kept B1.out, Does.of_below B1.out (fun _ hk => .inl hk)⟩ E2.out⟩
  · have hd : decide (size ≤ s.len) = false := by simpa using hf
    simp only at HI
    rw [hd] at HI
    have hs : Hid (s' = s ∧ r = 0) := Lib.hid (by
      unfold Ls.advance at hr
      rw [if_pos (by omega)] at hr
      exact ⟨(congrArg Prod.fst hr).symm, (congrArg Prod.snd hr).symm⟩)
    clear h hr h1 hf hd hn1 hn
    go_enter Tryz.func24, Tryz.ntmps24
    go_wp2_with (go_at_call 31; refine HI.out.mono ?_; rintro e w1 ⟨rfl, hb⟩; have B1 := Lib.hid hb; clear hb)
    go_ret
    obtain ⟨rfl, rfl⟩ := hs.out
    exact ⟨rfl, LRest.refl H.out B1.out⟩

end Go.Proofs.YtjppklgegpmfpaaGreatDoor
