/-
  Walks: files put in and taken out, by the document.
-/
import Derived.Test.YtjacjafpeajhaaaWkA
namespace Go.Proofs.Ytjacjafpeajhaaa
open Go.RowKit

theorem lit_file (w : World) (q : Fl) (cs : Array Value) (e : cs = (fvals [q]).toArray) : Lies (w.alloc (.cells cs 48)) (some ⟨w.heap.size, 0, none⟩) (fvals [q]) := lit_lies w _ cs e _
/-- It answers files, in new memory. -/
def Files (w : World) (B : Nat) (l : List Fl) (e : Ending) (w' : World) : Prop := ∃ A c, e = .returned (.slice A l.length c) ∧ Frow w' B A c l ∧ Below B w w'
theorem ret_slice {A : Option Addr} {n m c : Nat} (h : m = n) : Ending.returned (.slice A n c) = .returned (.slice A m c) := by rw [h]

theorem erase_take (l : List Fl) (i k : Nat) (q : Fl) (hq : l[k]? = some q) (hi : i ≠ k) : (l.take (k + 1)).eraseIdx i = (l.take k).eraseIdx i ++ [q] := by
  have hk := (List.getElem?_eq_some_iff.1 hq).1
  rw [List.take_add_one, hq]
  simp only [Option.toList_some]
  by_cases h : i < k
  · rw [List.eraseIdx_append_of_lt_length (by simp; omega)]
  · rw [List.eraseIdx_append_of_length_le (by simp; omega), List.eraseIdx_of_length_le (by simp; omega), List.eraseIdx_of_length_le (by simp; omega)]
theorem erase_same (l : List Fl) (k : Nat) (q : Fl) (hq : l[k]? = some q) : (l.take (k + 1)).eraseIdx k = (l.take k).eraseIdx k := by
  have hk := (List.getElem?_eq_some_iff.1 hq).1
  have hl : (l.take k).length = k := by simp; omega
  rw [List.take_add_one, hq]
  simp only [Option.toList_some]
  rw [List.eraseIdx_append_of_length_le (by omega), List.eraseIdx_of_length_le (l := l.take k) (by omega), hl, Nat.sub_self]
  simp

set_option maxHeartbeats 2000000 in
theorem refWithout_any (A : Option Addr) (l : List Fl) (n c i : Nat) (w : World) (hn : l.length = n) (h : Lies w A (fvals l)) (hl : n ≤ 1048576) (hi : i ≤ n) :
    Calls Try.prog 66 #[.slice A n c, .int .i64 i] w (Files w w.heap.size (l.eraseIdx i)) := by
  have HP := Lib.hid (fun (w' : World) (hb : Below w.heap.size w w') => h.kept hb)
  have HN := Lib.hid hn
  clear h hn
  go_enter Try.func66, Try.ntmps66
  go_wp2_with fail
  go_loopw [5, 9] (fun t5 t9 wr => ∃ (k m : Nat) (A2 : Option Addr) (c2 : Nat), k ≤ n ∧ t9 = .int .i64 k ∧ t5 = .slice A2 m c2 ∧ m ≤ k ∧ Hid (((l.take k).eraseIdx i).length = m) ∧ Hid (Frow wr w.heap.size A2 c2 ((l.take k).eraseIdx i)) ∧ Hid (Below w.heap.size w wr)) (fun _ t9 _ => n - (intOf t9).toNat)
  case atStart => exact ⟨0, 0, none, 0, by omega, rfl, rfl, by omega, Lib.hid (by simp), Lib.hid (by simpa using Frow.nil _ _), Lib.hid (Below.refl _ _)⟩
  case round =>
    obtain ⟨k, m, A2, c2, hk, rfl, rfl, hm, hl2, r2, b2⟩ := hrel
    by_cases hlt : k < n
    · have hq := List.getElem?_eq_getElem (l := l) (i := k) (by have := HN.out; omega)
      generalize l[k]'(by have := HN.out; omega) = q at hq
      obtain ⟨ad, rfl, a0, a1, a2⟩ := lies_file (HP.out _ b2.out) hq
      by_cases hi2 : k = i
      · have HE := Lib.hid (erase_same l k q hq)
        have d0 : ((k : Int) != i) = false := by simp [hi2]
        have HI := Lib.hid hi2
        clear hq hi2
        go_wp2_with fail
        go_roundw
        case rel => exact ⟨k + 1, m, A2, c2, by omega, by go_num, rfl, by omega, Lib.hid (by have := HI.out; subst this; rw [HE.out]; exact hl2.out), Lib.hid (by have := HI.out; subst this; rw [HE.out]; exact r2.out), b2⟩
        case measure => simp [intOf]; omega
      · have HE := Lib.hid (erase_take l i k q hq (fun e => hi2 e.symm))
        have d0 : ((k : Int) != i) = true := by simp; omega
        have HZ := Lib.hid b2.out.size
        have HF := Lib.hid (lit_file wr q)
        clear hq hi2
        go_wp2_with (at_builtin; refine wpList_append_frow _ rfl (.tmp 15) (.tmp 20) rfl w.heap.size A2 c2 _ [q] _ m 1 1 rfl rfl hl2.out rfl (r2.out.alloc _) (HF.out _ rfl) (by have := HZ.out; simp; omega) (by have := hl2.out; simp; omega) ?_; intro A4 c4 w4 r4 b4 _; have R4 := Lib.hid r4; have B4 := Lib.hid ((b2.out.alloc HZ.out _).trans b4); clear r4 b4)
        go_roundw
        case rel => exact ⟨k + 1, m + 1, A4, c4, by omega, by go_num, rfl, by omega, Lib.hid (by rw [HE.out, List.length_append, hl2.out]; rfl), Lib.hid (by rw [HE.out]; exact R4.out), B4⟩
        case measure => simp [intOf]; omega
    · obtain rfl : k = n := by omega
      have r8 := r2.out
      have l8 := hl2.out
      rw [List.take_of_length_le (by have := HN.out; omega)] at r8 l8
      have R8 := Lib.hid r8
      have L8 := Lib.hid l8
      clear r8 r2 l8 hl2
      go_wp2_with fail
      go_ret
      exact ⟨A2, c2, ret_slice L8.out, R8.out, b2.out⟩

end Go.Proofs.Ytjacjafpeajhaaa
