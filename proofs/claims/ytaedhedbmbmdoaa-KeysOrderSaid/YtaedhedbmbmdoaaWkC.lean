/-
  Walks: a row written, by the program.
-/
import Derived.Test.YtaedhedbmbmdoaaWkB
namespace Go.Proofs.Ytaedhedbmbmdoaa
open Go.RowKit

def pts (l : List Qt) : List Pt := l.map Qt.pt
theorem pts_len (l : List Qt) : (pts l).length = l.length := by simp [pts]
theorem pts_fit {l : List Qt} (h : ∀ q ∈ l, q.Ok) : ∀ p ∈ pts l, p.Fit := fun p hp => by
  obtain ⟨q, hq, rfl⟩ := List.mem_map.1 hp
  exact ⟨nums_byt _, (h q hq).lo, (h q hq).hi⟩
theorem long_iff (l : List Qt) : l.any Qt.long = true ↔ ∃ p ∈ pts l, p.t = true ∧ 64 < p.text.length := by
  rw [List.any_eq_true]
  constructor
  · rintro ⟨q, hq, h⟩
    refine ⟨q.pt, List.mem_map_of_mem hq, ?_⟩
    simpa [Qt.long, Qt.pt, nums_len] using h
  · rintro ⟨p, hp, h⟩
    obtain ⟨q, hq, rfl⟩ := List.mem_map.1 hp
    refine ⟨q, hq, ?_⟩
    simpa [Qt.long, Qt.pt, nums_len] using h
theorem mixed_iff (l : List Qt) : l.any Qt.mixed = true ↔ ∃ p ∈ pts l, ¬ p.Good := by
  have key : ∀ q : Qt, q.mixed = true ↔ ¬ q.pt.Good := fun q => by
    obtain ⟨t, v, s⟩ := q
    cases t
    · unfold Qt.mixed Qt.pt Pt.Good
      have := nums_len s
      simp only [Bool.false_eq_true, if_false]
      rw [← List.length_eq_zero_iff, this]
      simp
    · unfold Qt.mixed Qt.pt Pt.Good
      simp
  rw [List.any_eq_true]
  constructor
  · rintro ⟨q, hq, h⟩
    exact ⟨q.pt, List.mem_map_of_mem hq, (key q).1 h⟩
  · rintro ⟨p, hp, h⟩
    obtain ⟨q, hq, rfl⟩ := List.mem_map.1 hp
    exact ⟨q, hq, (key q).2 h⟩
theorem enc_long {l : List Qt} (h : (decide (8 < l.length) || l.any Qt.long) = true) : encP (pts l) = ([], 3) := by
  unfold encP
  rw [pts_len]
  split
  · rfl
  · rw [if_pos ((long_iff l).1 (by simpa [*] using h))]
theorem enc_mixed {l : List Qt} (h : (decide (8 < l.length) || l.any Qt.long) = false) (g : l.any Qt.mixed = true) : encP (pts l) = ([], 2) := by
  rw [Bool.or_eq_false_iff] at h
  unfold encP
  rw [pts_len, if_neg (by simpa using h.1), if_neg (fun k => by rw [(long_iff l).2 k] at h; simp at h), if_pos ((mixed_iff l).1 g)]
theorem enc_key {l : List Qt} (h : (decide (8 < l.length) || l.any Qt.long) = false) (g : l.any Qt.mixed = false) : encP (pts l) = if keyB (encL (pts l)).length then (encL (pts l), 0) else ([], 30) := by
  rw [Bool.or_eq_false_iff] at h
  unfold encP
  rw [pts_len, if_neg (by simpa using h.1), if_neg (fun k => by rw [(long_iff l).2 k] at h; simp at h), if_neg (fun k => by rw [(mixed_iff l).2 k] at g; simp at g)]
  unfold keyB
  simp only [← List.length_eq_zero_iff]
  generalize (encL (pts l)) = E
  by_cases h1 : 0 < E.length
  · by_cases h2 : E.length ≤ 200
    · rw [if_neg (by omega), if_pos (by simp [h1, h2])]
    · rw [if_pos (by omega), if_neg (by simp [h2])]
  · rw [if_pos (by omega), if_neg (by simp [h1])]
theorem esc_len (L : List Int) : (esc L).length ≤ 2 * L.length := by
  induction L with
  | nil => simp [esc]
  | cons x s ih => unfold esc; split <;> simp <;> omega
theorem pt_len {q : Qt} (h : q.long = false) : (ptL q.pt).length ≤ 131 := by
  obtain ⟨t, v, s⟩ := q
  cases t
  · show (1 :: be8 _).length ≤ 131
    simp [be8_len]
  · have := esc_len (nums s)
    rw [nums_len] at this
    simp [Qt.long] at h
    show (2 :: (esc (nums s) ++ [0, 1])).length ≤ 131
    simp
    omega
theorem enc_take (l : List Qt) (k : Nat) (q : Qt) (h : l[k]? = some q) : encL ((pts l).take (k + 1)) = encL ((pts l).take k) ++ ptL q.pt := by
  rw [List.take_add_one, encL_append]
  simp [pts, h, encL]

/-- What Encode answers: a new slice, and the error. -/
def Wrote (w : World) (p : List Int × Int) (e : Ending) (w' : World) : Prop := ∃ A c, e = .returned (.tuple #[.slice A p.1.length c, .int .i64 p.2]) ∧ Row w' w.heap.size A c p.1 ∧ Below w.heap.size w w'
theorem ret_pair {A : Option Addr} {n m c : Nat} {i j : Int} (h : n = m) (g : i = j) : Ending.returned (.tuple #[.slice A n c, .int .i64 i]) = .returned (.tuple #[.slice A m c, .int .i64 j]) := by rw [h, g]

set_option maxHeartbeats 4000000 in
theorem encode_any (A : Option Addr) (l : List Qt) (n c : Nat) (w : World) (hn : l.length = n) (hc : n ≤ 140737488351232) (h : Pts w A l) (ho : ∀ q ∈ l, q.Ok) :
    Calls Try.prog 9 #[.slice A n c] w (Wrote w (encP (pts l))) := by
  have HI := Lib.hid (isLong_any A l n c w hn hc h ho)
  have HP := Lib.hid (fun (w' : World) (hb : Below w.heap.size w w') => h.kept hb)
  have HM := Lib.hid (fun w' (hb : Below w.heap.size w w') => contains_any 23 Qt.mixed (by intros; rfl) (fun q w _ => isMixed_any q w) A l n c w' hn hc (HP.out w' hb) ho)
  have HO := Lib.hid ho
  have HN := Lib.hid hn
  clear h ho
  cases hL : (decide (8 < l.length) || l.any Qt.long)
  · rw [hL] at HI
    cases hG : l.any Qt.mixed
    · rw [hG] at HM
      have h8 : n ≤ 8 := by
        rw [Bool.or_eq_false_iff] at hL
        have := hL.1
        simp at this
        omega
      have HQ : Hid (∀ q ∈ l, q.long = false) := Lib.hid (by
        rw [Bool.or_eq_false_iff] at hL
        intro q hq
        have := hL.2
        rw [List.any_eq_false] at this
        simpa using this q hq)
      have HP' := Lib.hid (enc_key hL hG)
      generalize encP (pts l) = p at HP'
      clear hL hG hn
      go_enter Try.func9, Try.ntmps9
      go_wp2_with (first
        | (go_at_call 21; refine HI.out.mono ?_; rintro e w1 ⟨rfl, b1⟩; have B1 := Lib.hid b1; clear b1)
        | (go_at_call 22; refine (HM.out _ B1.out).mono ?_; rintro e w2 ⟨rfl, b2⟩; have B2 := Lib.hid (below_then B1.out b2); clear b2))
      go_loopw [4, 13] (fun t4 t13 wr => ∃ (k m : Nat) (A2 : Option Addr) (c2 : Nat), k ≤ n ∧ t13 = .int .i64 k ∧ t4 = .slice A2 m c2 ∧ m ≤ 131 * k ∧ Hid ((encL ((pts l).take k)).length = m) ∧ Hid (Row wr w.heap.size A2 c2 (encL ((pts l).take k))) ∧ Hid (Below w.heap.size w wr)) (fun _ t13 _ => n - (intOf t13).toNat)
      case atStart => exact ⟨0, 0, none, 0, by omega, rfl, rfl, by omega, Lib.hid (by simp [encL]), Lib.hid (by simpa [encL] using Row.nil _ _), B2⟩
      case round =>
        obtain ⟨k, m, A2, c2, hk, rfl, rfl, hm, hl2, r2, b2⟩ := hrel
        by_cases hlt : k < n
        · have hq := List.getElem?_eq_getElem (l := l) (i := k) (by have := HN.out; omega)
          generalize l[k]'(by have := HN.out; omega) = q at hq
          obtain ⟨ad, rfl, a0, a1, a2⟩ := (HP.out _ b2.out).at_ hq
          have HK := Lib.hid (HO.out q (List.mem_of_getElem? hq))
          have HS : Hid (q.long = false) := Lib.hid (HQ.out q (List.mem_of_getElem? hq))
          have HE := Lib.hid (enc_take l k q hq)
          have HZ := Lib.hid b2.out.size
          have HF : Hid (q.t = true → q.s.size ≤ 1000000) := Lib.hid fun e => by have := HS.out; simp [Qt.long, e] at this; omega
          clear hq
          go_wp2_with (go_at_call 24; refine (appendPart_any A2 c2 _ m q _ w.heap.size hl2.out (r2.out.alloc _) (by have := HZ.out; simp; omega) (by omega) HK.out HF.out).mono ?_; rintro e w3 ⟨A3, c3, rfl, r3, b3⟩; have R3 := Lib.hid r3; have B3 := Lib.hid ((b2.out.alloc HZ.out _).trans b3); clear r3 b3)
          go_roundw
          case rel => exact ⟨k + 1, _, A3, c3, by omega, by go_num, rfl, (by have := pt_len HS.out; rw [hl2.out]; omega), Lib.hid (by rw [HE.out, List.length_append]), Lib.hid (by rw [HE.out]; exact R3.out), B3⟩
          case measure => simp [intOf]; omega
        · obtain rfl : k = n := by omega
          have r8 := r2.out
          have l8 := hl2.out
          rw [List.take_of_length_le (by rw [pts_len]; have := HN.out; omega)] at r8 l8
          have R8 := Lib.hid r8
          have L8 := Lib.hid l8
          have HP2 := HP'.out
          rw [l8] at HP2
          clear r8 r2 l8 hl2
          cases hk : keyB m
          · rw [hk] at HP2
            have HQ2 := Lib.hid HP2
            have HK := Lib.hid hk
            clear hk HP2
            go_wp2_with (go_at_call 25; refine (isKey_any A2 m c2 _ (by omega)).mono ?_; rintro e w3 ⟨rfl, hw⟩; subst hw; rw [HK.out])
            go_ret2
            rw [HQ2.out]
            exact ⟨none, 0, rfl, Row.nil _ _, b2.out⟩
          · rw [hk] at HP2
            have HQ2 := Lib.hid HP2
            have HK := Lib.hid hk
            clear hk HP2
            go_wp2_with (go_at_call 25; refine (isKey_any A2 m c2 _ (by omega)).mono ?_; rintro e w3 ⟨rfl, hw⟩; subst hw; rw [HK.out])
            go_ret2
            rw [HQ2.out]
            exact ⟨A2, c2, ret_pair L8.out.symm rfl, R8.out, b2.out⟩
    · rw [hG] at HM
      rw [enc_mixed hL hG]
      clear hL hG hn
      go_enter Try.func9, Try.ntmps9
      go_wp2_with (first
        | (go_at_call 21; refine HI.out.mono ?_; rintro e w1 ⟨rfl, b1⟩; have B1 := Lib.hid b1; clear b1)
        | (go_at_call 22; refine (HM.out _ B1.out).mono ?_; rintro e w2 ⟨rfl, b2⟩; have B2 := Lib.hid (below_then B1.out b2); clear b2))
      go_ret2
      exact ⟨none, 0, rfl, Row.nil _ _, B2.out⟩
  · rw [hL] at HI
    rw [enc_long hL]
    clear hL HM
    go_enter Try.func9, Try.ntmps9
    go_wp2_with (go_at_call 21; refine HI.out.mono ?_; rintro e w1 ⟨rfl, b1⟩; have B1 := Lib.hid b1; clear b1)
    go_ret2
    exact ⟨none, 0, rfl, Row.nil _ _, B1.out⟩

end Go.Proofs.Ytaedhedbmbmdoaa
