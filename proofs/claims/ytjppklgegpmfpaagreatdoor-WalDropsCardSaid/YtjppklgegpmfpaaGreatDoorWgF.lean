/-
  Walks: a record put behind the others.
-/
import Derived.Test.YtjppklgegpmfpaaGreatDoorWgE
namespace Go.Proofs.YtjppklgegpmfpaaGreatDoor
open Go.RowKit
open Go.Maps

def Ls.append (p : ByteArray) (size : Nat) (b : List Int) (s : Ls) : Ls × Int :=
  if (s.advance p size).2 ≠ 0 then s.advance p size
  else if ((s.advance p size).1.m.append (seg p (s.advance p size).1.num) (putL b)).2 ≠ 0 then ({ (s.advance p size).1 with m := ((s.advance p size).1.m.append (seg p (s.advance p size).1.num) (putL b)).1 }, ((s.advance p size).1.m.append (seg p (s.advance p size).1.num) (putL b)).2)
  else (⟨((s.advance p size).1.m.append (seg p (s.advance p size).1.num) (putL b)).1, (s.advance p size).1.num, (s.advance p size).1.len + (putL b).length⟩, 0)
/-- New memory stays, whatever the log does. -/
theorem row_stays {w w3 w4 : World} {B g lb c : Nat} {d d4 : Pk} {s : Ls} {p : ByteArray} {size : Nat} {A : Option Addr} {L : List Int} (h : LSt w B g lb d s p size) (hr : Row w3 w.heap.size A c L) (hd : Does (lown d g lb) (lown d4 g lb) w3 w4) :
    Row w4 w.heap.size A c L ∧ ∀ ad, A = some ad → ¬ lown d4 g lb ad.block ∧ ad.block < w4.heap.size := by
  have hn : ∀ ad, A = some ad → ¬ lown d g lb ad.block := fun ad ha hk => by
    have h1 := (h.owned ad.block hk).2
    have h2 := (own_in hr ad ha).1
    omega
  refine ⟨own_block hr (fun ad ha => hd.block _ (own_in hr ad ha).2 (hn ad ha)), fun ad ha => ⟨fun hk => ?_, Nat.lt_of_lt_of_le (own_in hr ad ha).2 hd.size⟩⟩
  rcases hd.grows _ hk with h1 | h1
  · exact hn ad ha h1
  · have := (own_in hr ad ha).2
    omega
theorem putN_any (A : Option Addr) (L : List Int) (n c : Nat) (w : World) (h : In w A L n c) (hn : n ≤ 2097152) :
    Calls Tryz.prog 23 #[.slice A n c] w fun e w' => ∃ A' c', e = .returned (.tuple #[.slice A' (8 + n) c', .int .i64 0]) ∧ Row w' w.heap.size A' c' (putL L) ∧ Below w.heap.size w w' := by
  have hl := h.len
  refine (putF_any A L n c w h).mono ?_
  rintro e w' ⟨A', c', rfl, h1, h2⟩
  rw [putF_ok (by omega)] at h1
  refine ⟨A', c', ?_, h1, h2⟩
  rw [putF_ok (by omega)]
  show _ = Ending.returned (.tuple #[.slice A' (8 + n) c', .int .i64 0])
  rw [putL_len, hl]
theorem advance_len (p : ByteArray) (size : Nat) (s : Ls) : (s.advance p size).1.len ≤ s.len ∧ (s.advance p size).1.num ≤ s.num + 1 := by
  have h := sync_num p s
  unfold Ls.advance
  split
  · exact ⟨Nat.le_refl _, Nat.le_succ _⟩
  · split
    · exact ⟨by rw [h.2]; exact Nat.le_refl _, by rw [h.1]; exact Nat.le_succ _⟩
    · exact ⟨Nat.zero_le _, Nat.le_refl _⟩

set_option maxRecDepth 100000 in
set_option maxHeartbeats 4000000 in
theorem appendLog_any (B g lb : Nat) (d : Pk) (s s' : Ls) (p : ByteArray) (size : Nat) (r : Int) (A : Option Addr) (L : List Int) (n c : Nat) (w : World) (h : LSt w B g lb d s p size) (hp : IsPre p) (hn : s.num ≤ 999998) (hT : Tab B w) (hi : In w A L n c) (hn5 : n ≤ 5000)
    (hf : Fits (s.advance p size).1.m 8192) (hsum : sumM (s.advance p size).1.m.fs + 8192 ≤ 4611686018427387904) (hlen : s.len ≤ 4611686018427387904) (hr : s.append p size L = (s', r)) :
    Calls Tryz.prog 11 #[.pointer (some ⟨lb, 0, none⟩), .slice A n c] w fun e w' => e = .returned (.int .i64 r) ∧ LRest w B g lb d p size s' w' := by
  have H := Lib.hid h
  have HP := Lib.hid (putN_any A L n c w hi (by omega))
  have HB := Lib.hid (putL_byt L hi.byt)
  have HPL : Hid ((putL L).length = 8 + n) := Lib.hid (by rw [putL_len, hi.len])
  obtain ⟨v, hv⟩ : ∃ v, (if size ≤ s.len then s.num + 1 else s.num) = v := ⟨_, rfl⟩
  have hv6 : v ≤ 999999 := by rw [← hv]; split <;> omega
  have HSG := Lib.hid (fun (W : World) (hb : Below w.heap.size w W) => segment_any lb g v _ W (h.kept hb).lg hv (by show s.num ≤ _; omega))
  obtain ⟨s1, r1, h1⟩ : ∃ s1 r1, s.advance p size = (s1, r1) := ⟨_, _, rfl⟩
  have HA := Lib.hid (fun (W : World) (hb : Below w.heap.size w W) => advance_any B g lb d s s1 p size r1 W (h.kept hb) hp (by omega) (hT.on (hb.mono h.size_le)) h1)
  have HT := Lib.hid hT
  rw [h1] at hf hsum
  have hln := advance_len p size s
  rw [h1] at hln
  simp only at hf hsum hln
  have v9 : ¬ ((999999 : Int) < (v : Int)) := by omega
  by_cases h0 : r1 = 0
  · subst h0
    obtain ⟨m2, r2, h2⟩ : ∃ m2 r2, s1.m.append (seg p s1.num) (putL L) = (m2, r2) := ⟨_, _, rfl⟩
    have HF := Lib.hid (And.intro hf (And.intro hsum (And.intro hln (And.intro hn5 (And.intro hlen hn)))))
    have hs0 : s.append p size L = if r2 ≠ 0 then (⟨m2, s1.num, s1.len⟩, r2) else (⟨m2, s1.num, s1.len + (putL L).length⟩, 0) := by
      unfold Ls.append
      simp only [h1, h2]
      rw [if_neg (by simp)]
    have HD : Hid (∀ (W : World) (d1 : Pk) (A' : Option Addr) (c' : Nat), PSt W B g d1 → d1.vm = s1.m → Row W w.heap.size A' c' (putL L) → (∀ ad, A' = some ad → ¬ d1.own g ad.block ∧ ad.block < W.heap.size) → Calls Tryz.prog 25 #[.pointer (some ⟨g, 0, none⟩), .string (seg p s1.num), .slice A' (8 + n) c'] W fun e w' => e = .returned (.int .i64 r2) ∧ Rest W B g d1 m2 w') := Lib.hid (fun W d1 A' c' k1 k2 k3 k4 =>
      append_vm B g d1 s1.m m2 r2 (seg p s1.num) A' (putL L) (8 + n) c' W k1 k2 (pre_size hp _) HPL.out HB.out k3.lies k4 ⟨hf.few, fun x hx => by have := hf.long x hx; omega, hf.names⟩ (by omega) (by omega) h2)
    have HNM : Hid (∀ (W : World) (d1 : Pk), LSt W B g lb d1 s1 p size → Below B w W → Calls Tryz.prog 26 #[.pointer (some ⟨lb, 0, none⟩), .int .i64 (s1.num : Int)] W fun e w' => e = .returned (.string (seg p s1.num)) ∧ Below W.heap.size W w') := Lib.hid (fun W d1 k1 k2 => name_any B lb g s1.num ⟨p, size, s1.num, s1.len⟩ W hp (by have := hln.2; omega) k1.lg (HT.out.on k2) k1.size_le)
    rw [hs0] at hr
    clear hs0 h1 h2 hf hsum hln hlen hi hn5 hv hT
    obtain ⟨m1, num1, len1⟩ := s1
    simp only at HD HNM HA hr HF
    generalize seg p num1 = sg at HD HNM
    by_cases h3 : r2 = 0
    · subst h3
      rw [if_neg (by simp)] at hr
      have hs : Hid (s' = ⟨m2, num1, len1 + (8 + n)⟩ ∧ r = 0) := Lib.hid (by rw [HPL.out] at hr; exact ⟨(congrArg Prod.fst hr).symm, (congrArg Prod.snd hr).symm⟩)
      clear h hr
      go_enter Tryz.func11, Tryz.ntmps11
      go_upto_region 11 with (first
        | (go_at_call 23; refine HP.out.mono ?_; rintro e w1 ⟨A1, c1, rfl, hrw, hb⟩; have B1 := Lib.hid hb; have R1 := Lib.hid hrw; clear hb hrw)
        | (go_at_call 16; refine (HSG.out _ B1.out).mono ?_; rintro e w2 ⟨rfl, hb⟩; have K2 : Hid (Below w1.heap.size w1 w2) := Lib.hid hb; have B2 : Hid (Below w.heap.size w w2) := Lib.hid (B1.out.trans (hb.mono B1.out.size)); clear hb)
        | (go_at_call 24; refine (HA.out _ B2.out).mono ?_; rintro e w3 ⟨rfl, d3, hb⟩; have E3 := Lib.hid hb; clear hb))
      have B3 : Hid (Below B w w3) := Lib.hid ((B2.out.mono H.out.size_le).trans (LRest.below (H.out.kept B2.out) ⟨d3, E3.out⟩))
      have R3 := Lib.hid (row_stays H.out (R1.out.kept K2.out (Nat.le_refl _)) E3.out.2)
      have HC := Lib.hid (fun (W : World) (e : W.heap[lb]? = w3.heap[lb]?) => (show W.cell? ⟨lb, 0, none⟩ = some (.pointer (some ⟨g, 0, none⟩)) ∧ W.cell? ⟨lb, 3, none⟩ = some (.int .i64 (num1 : Int)) from ⟨(E3.out.1.lg.of e).cell.1, (E3.out.1.lg.of e).cell.2.2.2.1⟩))
      have HL := Lib.hid E3.out.1.lg.lt
      go_region_held3 (fun W => W.cell? ⟨lb, 0, none⟩ = some (.pointer (some ⟨g, 0, none⟩)) ∧ W.cell? ⟨lb, 3, none⟩ = some (.int .i64 (num1 : Int))) (first | exact HC.out _ E5.out | exact HC.out _ (E4.out.block _ HL.out) | exact HC.out _ rfl | go_keep) (first
        | (go_at_call 26; refine (HNM.out _ d3 (by first | exact E3.out.1 | exact E3.out.1.kept (Below.refl _ _).drew) (by first | exact B3.out | exact B3.out.drew)).mono ?_; rintro e w4 ⟨rfl, hb⟩; have E4 : Hid (Below w3.heap.size w3 w4) := Lib.hid ((by repeat (first | exact Below.refl _ _ | refine Below.drew ?_) : Below w3.heap.size w3 _).trans hb); clear hb)
        | (go_at_call 25; refine (HD.out _ d3 A1 c1 (by first | exact (E3.out.1.kept E4.out).ps) (E3.out.1.vm) (R3.out.1.kept E4.out (Nat.le_refl _)) (fun ad ha => ⟨fun hk => (R3.out.2 ad ha).1 (.inl hk), Nat.lt_of_lt_of_le (R3.out.2 ad ha).2 E4.out.size⟩)).mono ?_; rintro e w5 ⟨rfl, hb⟩; have E6 := Lib.hid ((E3.out.1.kept E4.out).rest hb); have E5 : Hid (w5.heap[lb]? = w3.heap[lb]?) := Lib.hid (by obtain ⟨d', x1, x2, x3⟩ := hb; exact (x3.block lb (Nat.lt_of_lt_of_le HL.out E4.out.size) E3.out.1.off).trans (E4.out.block lb HL.out)); clear hb))
      all_goals
        obtain ⟨d5, E7⟩ := E6.out
        have F7 := Lib.hid E7
        clear E7
        have c4 := F7.out.1.lg.cell.2.2.2.2
        have f4 := F7.out.1.lg.frozen 4
        have T4 := Lib.hid (F7.out.1.turn (s' := ⟨m2, num1, len1 + (8 + n)⟩) rfl (F7.out.1.lg.setLen (len1 + (8 + n))))
        have e1 : (((len1 + (8 + n) : Nat) : Int)) = (len1 : Int) + ((8 + n : Nat) : Int) := by omega
        rw [e1] at T4
        have hwr : IntKind.i64.wrap ((len1 : Int) + ((8 + n : Nat) : Int)) = (len1 : Int) + ((8 + n : Nat) : Int) := by have h1 := HF.out.2.2.1.1; have h2 := HF.out.2.2.2.2.1; have h3 := HF.out.2.2.2.1; rw [IntKind.wrap_i64]; omega
        have hwr2 : IntKind.i64.wrap ((len1 : Int) + (8 + (n : Int))) = (len1 : Int) + (8 + (n : Int)) := by have h1 := HF.out.2.2.1.1; have h2 := HF.out.2.2.2.2.1; have h3 := HF.out.2.2.2.1; rw [IntKind.wrap_i64]; omega
        simp only at c4
        clear e1
        go_wp2_with fail
        go_ret
        obtain ⟨rfl, rfl⟩ := hs.out
        refine ⟨by simp, LRest.trans ⟨H.out.kept B2.out, Does.of_below B2.out (fun _ hk => .inl hk)⟩ (LRest.trans E3.out (LRest.trans ⟨E3.out.1.kept E4.out, Does.of_below E4.out (fun _ hk => .inl hk)⟩ ?_))⟩
        exact ⟨d5, by simpa using T4.out.1, F7.out.2.trans (by simpa using T4.out.2)⟩
    · rw [if_pos h3] at hr
      have hs : Hid (s' = ⟨m2, num1, len1⟩ ∧ r = r2) := Lib.hid ⟨(congrArg Prod.fst hr).symm, (congrArg Prod.snd hr).symm⟩
      have c0 : (r2 != 0) = true := by simpa using h3
      clear h hr h3
      go_enter Tryz.func11, Tryz.ntmps11
      go_upto_region 11 with (first
        | (go_at_call 23; refine HP.out.mono ?_; rintro e w1 ⟨A1, c1, rfl, hrw, hb⟩; have B1 := Lib.hid hb; have R1 := Lib.hid hrw; clear hb hrw)
        | (go_at_call 16; refine (HSG.out _ B1.out).mono ?_; rintro e w2 ⟨rfl, hb⟩; have K2 : Hid (Below w1.heap.size w1 w2) := Lib.hid hb; have B2 : Hid (Below w.heap.size w w2) := Lib.hid (B1.out.trans (hb.mono B1.out.size)); clear hb)
        | (go_at_call 24; refine (HA.out _ B2.out).mono ?_; rintro e w3 ⟨rfl, d3, hb⟩; have E3 := Lib.hid hb; clear hb))
      have B3 : Hid (Below B w w3) := Lib.hid ((B2.out.mono H.out.size_le).trans (LRest.below (H.out.kept B2.out) ⟨d3, E3.out⟩))
      have R3 := Lib.hid (row_stays H.out (R1.out.kept K2.out (Nat.le_refl _)) E3.out.2)
      have HC := Lib.hid (fun (W : World) (e : W.heap[lb]? = w3.heap[lb]?) => (show W.cell? ⟨lb, 0, none⟩ = some (.pointer (some ⟨g, 0, none⟩)) ∧ W.cell? ⟨lb, 3, none⟩ = some (.int .i64 (num1 : Int)) from ⟨(E3.out.1.lg.of e).cell.1, (E3.out.1.lg.of e).cell.2.2.2.1⟩))
      have HL := Lib.hid E3.out.1.lg.lt
      go_region_held3 (fun W => W.cell? ⟨lb, 0, none⟩ = some (.pointer (some ⟨g, 0, none⟩)) ∧ W.cell? ⟨lb, 3, none⟩ = some (.int .i64 (num1 : Int))) (first | exact HC.out _ E5.out | exact HC.out _ (E4.out.block _ HL.out) | exact HC.out _ rfl | go_keep) (first
        | (go_at_call 26; refine (HNM.out _ d3 (by first | exact E3.out.1 | exact E3.out.1.kept (Below.refl _ _).drew) (by first | exact B3.out | exact B3.out.drew)).mono ?_; rintro e w4 ⟨rfl, hb⟩; have E4 : Hid (Below w3.heap.size w3 w4) := Lib.hid ((by repeat (first | exact Below.refl _ _ | refine Below.drew ?_) : Below w3.heap.size w3 _).trans hb); clear hb)
        | (go_at_call 25; refine (HD.out _ d3 A1 c1 (by first | exact (E3.out.1.kept E4.out).ps) (E3.out.1.vm) (R3.out.1.kept E4.out (Nat.le_refl _)) (fun ad ha => ⟨fun hk => (R3.out.2 ad ha).1 (.inl hk), Nat.lt_of_lt_of_le (R3.out.2 ad ha).2 E4.out.size⟩)).mono ?_; rintro e w5 ⟨rfl, hb⟩; have E6 := Lib.hid ((E3.out.1.kept E4.out).rest hb); have E5 : Hid (w5.heap[lb]? = w3.heap[lb]?) := Lib.hid (by obtain ⟨d', x1, x2, x3⟩ := hb; exact (x3.block lb (Nat.lt_of_lt_of_le HL.out E4.out.size) E3.out.1.off).trans (E4.out.block lb HL.out)); clear hb))
      all_goals
        go_wp2_with fail
        go_ret
        obtain ⟨rfl, rfl⟩ := hs.out
        exact ⟨by simp, LRest.trans ⟨H.out.kept B2.out, Does.of_below B2.out (fun _ hk => .inl hk)⟩ (LRest.trans E3.out (LRest.trans ⟨E3.out.1.kept E4.out, Does.of_below E4.out (fun _ hk => .inl hk)⟩ E6.out))⟩
  · have hs : Hid (s' = s1 ∧ r = r1) := Lib.hid (by
      unfold Ls.append at hr
      simp only [h1] at hr
      rw [if_pos h0] at hr
      exact ⟨(congrArg Prod.fst hr).symm, (congrArg Prod.snd hr).symm⟩)
    have c0 : (r1 != 0) = true := by simpa using h0
    clear h hr h1 hf hsum hln hlen hi hn5 hv hT h0
    go_enter Tryz.func11, Tryz.ntmps11
    go_wp2_with (first
      | (go_at_call 23; refine HP.out.mono ?_; rintro e w1 ⟨A1, c1, rfl, hrw, hb⟩; have B1 := Lib.hid hb; have R1 := Lib.hid hrw; clear hb hrw)
      | (go_at_call 16; refine (HSG.out _ B1.out).mono ?_; rintro e w2 ⟨rfl, hb⟩; have B2 : Hid (Below w.heap.size w w2) := Lib.hid (B1.out.trans (hb.mono B1.out.size)); clear hb)
      | (go_at_call 24; refine (HA.out _ B2.out).mono ?_; rintro e w3 ⟨rfl, hb⟩; have E3 := Lib.hid hb; clear hb))
    go_ret
    obtain ⟨rfl, rfl⟩ := hs.out
    exact ⟨rfl, LRest.trans ⟨H.out.kept B2.out, Does.of_below B2.out (fun _ hk => .inl hk)⟩ E3.out⟩

end Go.Proofs.YtjppklgegpmfpaaGreatDoor
