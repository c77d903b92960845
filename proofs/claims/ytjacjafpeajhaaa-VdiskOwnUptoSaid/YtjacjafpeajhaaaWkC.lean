/-
  Walks: a file put in, in the order of the names, by the document.
-/
import Derived.Test.YtjacjafpeajhaaaWkB
import Derived.Deep.QuietTactic
import Derived.Deep.RegionWith
import Derived.Deep.RegionLaw
import Derived.Deep.Cut
import Derived.Deep.CutRange
import Derived.Deep.CutBlock
import Derived.BigQuiet
namespace Go.Proofs.Ytjacjafpeajhaaa
open Go.RowKit

/-- The order of names. -/
def ltS (s t : ByteArray) : Bool := Op.bytesLess s.toList t.toList
/-- A file put in, in the order of the names. -/
def insF (q : Fl) : List Fl → List Fl
  | [] => [q]
  | x :: l => if ltS q.s x.s then q :: x :: l else x :: insF q l
/-- What stands there once these were gone over. -/
def insO (q : Fl) (l : List Fl) : List Fl := if l.any (fun x => ltS q.s x.s) then insF q l else l
theorem insF_none (q : Fl) : ∀ l : List Fl, l.any (fun x => ltS q.s x.s) = false → insF q l = l ++ [q]
  | [], _ => rfl
  | x :: l, h => by
    rw [List.any_cons, Bool.or_eq_false_iff] at h
    unfold insF
    rw [h.1, insF_none q l h.2]
    rfl
theorem insF_old (q x : Fl) : ∀ l : List Fl, l.any (fun x => ltS q.s x.s) = true → insF q (l ++ [x]) = insF q l ++ [x]
  | [], h => by simp at h
  | y :: l, h => by
    by_cases hy : ltS q.s y.s = true
    · simp [insF, hy]
    · rw [List.any_cons, Bool.or_eq_true] at h
      have ih := insF_old q x l (h.resolve_left hy)
      simp [insF, hy, ih]
theorem insF_new (q x : Fl) (hx : ltS q.s x.s = true) : ∀ l : List Fl, l.any (fun x => ltS q.s x.s) = false → insF q (l ++ [x]) = l ++ [q] ++ [x]
  | [], _ => by simp [insF, hx]
  | y :: l, h => by
    rw [List.any_cons, Bool.or_eq_false_iff] at h
    have ih := insF_new q x hx l h.2
    simp only [List.cons_append, insF, h.1]
    rw [ih]
    simp
theorem insF_len (q : Fl) : ∀ l : List Fl, (insF q l).length = l.length + 1
  | [] => rfl
  | x :: l => by
    unfold insF
    split
    · simp
    · simp [insF_len q l]
theorem ins_old (q x : Fl) (l : List Fl) (k : Nat) (hx : l[k]? = some x) (h : (l.take k).any (fun x => ltS q.s x.s) = true) : insO q (l.take (k + 1)) = insO q (l.take k) ++ [x] ∧ (l.take (k + 1)).any (fun x => ltS q.s x.s) = true := by
  have e : l.take (k + 1) = l.take k ++ [x] := by rw [List.take_add_one, hx]; rfl
  have h2 : (l.take (k + 1)).any (fun x => ltS q.s x.s) = true := by rw [e, List.any_append, h]; rfl
  refine ⟨?_, h2⟩
  unfold insO
  rw [h2, h, e]
  exact insF_old q x _ h
theorem ins_new (q x : Fl) (l : List Fl) (k : Nat) (hx : l[k]? = some x) (h : (l.take k).any (fun x => ltS q.s x.s) = false) (hl : ltS q.s x.s = true) : insO q (l.take (k + 1)) = insO q (l.take k) ++ [q] ++ [x] ∧ (l.take (k + 1)).any (fun x => ltS q.s x.s) = true := by
  have e : l.take (k + 1) = l.take k ++ [x] := by rw [List.take_add_one, hx]; rfl
  have h2 : (l.take (k + 1)).any (fun x => ltS q.s x.s) = true := by rw [e, List.any_append]; simp [hl]
  refine ⟨?_, h2⟩
  unfold insO
  rw [h2, h, e]
  exact insF_new q x hl _ h
theorem ins_not (q x : Fl) (l : List Fl) (k : Nat) (hx : l[k]? = some x) (h : (l.take k).any (fun x => ltS q.s x.s) = false) (hl : ltS q.s x.s = false) : insO q (l.take (k + 1)) = insO q (l.take k) ++ [x] ∧ (l.take (k + 1)).any (fun x => ltS q.s x.s) = false := by
  have e : l.take (k + 1) = l.take k ++ [x] := by rw [List.take_add_one, hx]; rfl
  have h2 : (l.take (k + 1)).any (fun x => ltS q.s x.s) = false := by rw [e, List.any_append, h]; simp [hl]
  refine ⟨?_, h2⟩
  unfold insO
  rw [h2, h, e]
  rfl

set_option maxRecDepth 100000 in
set_option maxHeartbeats 4000000 in
theorem refInsert_any (A : Option Addr) (l : List Fl) (n c : Nat) (q : Fl) (w : World) (hn : l.length = n) (h : Lies w A (fvals l)) (hl : n ≤ 1048576) :
    Calls Try.prog 37 #[.slice A n c, q.val] w (Files w w.heap.size (insF q l)) := by
  have HP := Lib.hid (fun (w' : World) (hb : Below (w.heap.size + 1) (w.alloc (.cells #[.string q.s, .slice q.d.a q.d.l.length q.d.c, .int .i64 q.y] 48)) w') => (h.alloc (.cells #[.string q.s, .slice q.d.a q.d.l.length q.d.c, .int .i64 q.y] 48)).kept (by simpa using hb))
  have HF := Lib.hid (fun (w' : World) (hb : Below (w.heap.size + 1) (w.alloc (.cells #[.string q.s, .slice q.d.a q.d.l.length q.d.c, .int .i64 q.y] 48)) w') => lies_file (j := 0) (q := q) ((lit_file w q #[.string q.s, .slice q.d.a q.d.l.length q.d.c, .int .i64 q.y] rfl).kept (by simpa using hb)) rfl)
  have HN := Lib.hid hn
  have HS : Hid ((w.alloc (.cells #[.string q.s, .slice q.d.a q.d.l.length q.d.c, .int .i64 q.y] 48)).heap.size = w.heap.size + 1) := Lib.hid (by simp)
  have HW : Hid (Below w.heap.size w (w.alloc (.cells #[.string q.s, .slice q.d.a q.d.l.length q.d.c, .int .i64 q.y] 48))) := Lib.hid (below_new _ _)
  clear h hn
  unfold Fl.val Sl.val
  go_enter Try.func37, Try.ntmps37
  go_wp2_with fail
  generalize (w.alloc (.cells #[.string q.s, .slice q.d.a q.d.l.length q.d.c, .int .i64 q.y] 48)) = w1 at HP HF HS HW ⊢
  go_loopw [5, 6, 10] (fun t5 t6 t10 wr => ∃ (k m : Nat) (A2 : Option Addr) (c2 : Nat) (b : Bool), k ≤ n ∧ t10 = .int .i64 k ∧ t5 = .slice A2 m c2 ∧ t6 = .bool b ∧ m ≤ k + 1 ∧ Hid ((l.take k).any (fun x => ltS q.s x.s) = b) ∧ Hid ((insO q (l.take k)).length = m) ∧ Hid (Frow wr (w.heap.size + 1) A2 c2 (insO q (l.take k))) ∧ Hid (Below (w.heap.size + 1) w1 wr)) (fun _ _ t10 _ => n - (intOf t10).toNat)
  case atStart => exact ⟨0, 0, none, 0, false, by omega, rfl, rfl, rfl, by omega, Lib.hid (by simp), Lib.hid (by simp [insO]), Lib.hid (by simpa [insO] using Frow.nil _ _), Lib.hid (Below.refl _ _)⟩
  case round =>
    obtain ⟨k, m, A2, c2, b, hk, rfl, rfl, rfl, hm, ha, hl2, r2, b2⟩ := hrel
    obtain ⟨_, e0, f0, f1, f2⟩ := HF.out wr b2.out
    injection e0 with e0
    subst e0
    simp only [Nat.zero_mul, add_head, Nat.zero_add] at f0 f1 f2
    by_cases hlt : k < n
    · have hq := List.getElem?_eq_getElem (l := l) (i := k) (by have := HN.out; omega)
      generalize l[k]'(by have := HN.out; omega) = x at hq
      obtain ⟨ad, rfl, a0, a1, a2⟩ := lies_file (HP.out _ b2.out) hq
      have HA := Lib.hid (fun (w' : World) (hb : Below (w.heap.size + 1) w1 w') => lies_file_at (HP.out w' hb) hq)
      have HQ := Lib.hid hq
      clear hq
      cases b
      · cases hx : ltS q.s x.s
        · have d0 : Op.bytesLess q.s.toList x.s.toList = false := hx
          have HI := Lib.hid (ins_not q x l k HQ.out ha.out hx)
          clear hx
          go_upto_region 6 with fail
          go_quiet (fail)
          obtain ⟨wq, hwq⟩ : ∃ wq, wr.drewN nq = wq := ⟨_, rfl⟩
          have BQ : Hid (Below (w.heap.size + 1) w1 wq) := Lib.hid (hwq ▸ below_drewN b2.out nq)
          have RQ : Hid (Frow wq (w.heap.size + 1) A2 c2 (insO q (l.take k))) := Lib.hid (hwq ▸ own_kept r2.out (below_drewN (Below.refl _ wr) nq) (Nat.le_refl _))
          rw [hwq]
          clear hwq f0 f1 f2 a0 a1 a2 d0
          have HZ : Hid (w.heap.size + 1 ≤ wq.heap.size) := Lib.hid (by have := BQ.out.size; have := HS.out; omega)
          obtain ⟨a0, a1, a2⟩ := HA.out wq BQ.out
          have HL := Lib.hid (lit_file wq x)
          go_wp2_with (at_builtin; refine wpList_append_frow _ rfl (.tmp 29) (.tmp 34) rfl (w.heap.size + 1) A2 c2 _ [x] _ m 1 1 rfl rfl hl2.out rfl (RQ.out.alloc _) (HL.out _ rfl) (by have := HZ.out; simp; omega) (by have := hl2.out; simp; omega) ?_; intro A4 c4 w4 r4 b4 _; have R4 := Lib.hid r4; have B4 := Lib.hid ((BQ.out.alloc HZ.out _).trans b4); clear r4 b4)
          go_roundw
          case rel => exact ⟨k + 1, m + 1, A4, c4, false, by omega, by go_num, rfl, rfl, by omega, Lib.hid HI.out.2, Lib.hid (by rw [HI.out.1, List.length_append, hl2.out]; rfl), Lib.hid (by rw [HI.out.1]; exact R4.out), B4⟩
          case measure => simp [intOf]; omega
        · have d0 : Op.bytesLess q.s.toList x.s.toList = true := hx
          have HI := Lib.hid (ins_new q x l k HQ.out ha.out hx)
          have HM : Hid (m ≤ k) := Lib.hid (by have := hl2.out; unfold insO at this; rw [ha.out] at this; simp at this; omega)
          clear hx
          go_upto_region 6 with fail
          go_quiet (fail)
          obtain ⟨wq, hwq⟩ : ∃ wq, wr.drewN nq = wq := ⟨_, rfl⟩
          have BQ : Hid (Below (w.heap.size + 1) w1 wq) := Lib.hid (hwq ▸ below_drewN b2.out nq)
          have RQ : Hid (Frow wq (w.heap.size + 1) A2 c2 (insO q (l.take k))) := Lib.hid (hwq ▸ own_kept r2.out (below_drewN (Below.refl _ wr) nq) (Nat.le_refl _))
          rw [hwq]
          clear hwq f0 f1 f2 a0 a1 a2 d0
          have HZ : Hid (w.heap.size + 1 ≤ wq.heap.size) := Lib.hid (by have := BQ.out.size; have := HS.out; omega)
          obtain ⟨_, e0, f0, f1, f2⟩ := HF.out wq BQ.out
          injection e0 with e0
          subst e0
          simp only [Nat.zero_mul, add_head, Nat.zero_add] at f0 f1 f2
          have HL := Lib.hid (lit_file wq q)
          go_wp2_with (first
            | (at_builtin; refine wpList_append_frow _ rfl (.tmp 25) (.tmp 27) rfl (w.heap.size + 1) A2 c2 _ [q] _ m 1 1 rfl rfl hl2.out rfl (RQ.out.alloc _) (HL.out _ rfl) (by have := HZ.out; simp; omega) (by have := hl2.out; simp; omega) ?_; intro A3 c3 w3 r3 b3 _; have R3 := Lib.hid r3; have B3 := Lib.hid ((BQ.out.alloc HZ.out _).trans b3); clear r3 b3 f0 f1 f2; have HZ3 : Hid (w.heap.size + 1 ≤ w3.heap.size) := Lib.hid (by have := B3.out.size; have := HS.out; omega); obtain ⟨a0, a1, a2⟩ := HA.out w3 B3.out; have HL3 := Lib.hid (lit_file w3 x))
            | (at_builtin; refine wpList_append_frow _ rfl (.tmp 29) (.tmp 34) rfl (w.heap.size + 1) A3 c3 _ [x] _ (m + 1) 1 1 rfl rfl (by rw [List.length_append, hl2.out]; rfl) rfl (R3.out.alloc _) (HL3.out _ rfl) (by have := HZ3.out; simp; omega) (by have := hl2.out; simp; omega) ?_; intro A4 c4 w4 r4 b4 _; have R4 := Lib.hid r4; have B4 := Lib.hid ((B3.out.alloc HZ3.out _).trans b4); clear r4 b4))
          go_roundw
          case rel => exact ⟨k + 1, m + 1 + 1, A4, c4, true, by omega, by go_num, rfl, rfl, (by have := HM.out; omega), Lib.hid HI.out.2, Lib.hid (by rw [HI.out.1, List.length_append, List.length_append, hl2.out]; rfl), Lib.hid (by rw [HI.out.1]; exact R4.out), B4⟩
          case measure => simp [intOf]; omega
      · have HI := Lib.hid (ins_old q x l k HQ.out ha.out)
        go_upto_region 6 with fail
        go_quiet (fail)
        obtain ⟨wq, hwq⟩ : ∃ wq, wr.drewN nq = wq := ⟨_, rfl⟩
        have BQ : Hid (Below (w.heap.size + 1) w1 wq) := Lib.hid (hwq ▸ below_drewN b2.out nq)
        have RQ : Hid (Frow wq (w.heap.size + 1) A2 c2 (insO q (l.take k))) := Lib.hid (hwq ▸ own_kept r2.out (below_drewN (Below.refl _ wr) nq) (Nat.le_refl _))
        rw [hwq]
        clear hwq f0 f1 f2 a0 a1 a2
        have HZ : Hid (w.heap.size + 1 ≤ wq.heap.size) := Lib.hid (by have := BQ.out.size; have := HS.out; omega)
        obtain ⟨a0, a1, a2⟩ := HA.out wq BQ.out
        have HL := Lib.hid (lit_file wq x)
        go_wp2_with (at_builtin; refine wpList_append_frow _ rfl (.tmp 29) (.tmp 34) rfl (w.heap.size + 1) A2 c2 _ [x] _ m 1 1 rfl rfl hl2.out rfl (RQ.out.alloc _) (HL.out _ rfl) (by have := HZ.out; simp; omega) (by have := hl2.out; simp; omega) ?_; intro A4 c4 w4 r4 b4 _; have R4 := Lib.hid r4; have B4 := Lib.hid ((BQ.out.alloc HZ.out _).trans b4); clear r4 b4)
        go_roundw
        case rel => exact ⟨k + 1, m + 1, A4, c4, true, by omega, by go_num, rfl, rfl, by omega, Lib.hid HI.out.2, Lib.hid (by rw [HI.out.1, List.length_append, hl2.out]; rfl), Lib.hid (by rw [HI.out.1]; exact R4.out), B4⟩
        case measure => simp [intOf]; omega
    · obtain rfl : k = n := by omega
      have r8 := r2.out
      have l8 := hl2.out
      have a8 := ha.out
      rw [List.take_of_length_le (by have := HN.out; omega)] at r8 l8 a8
      have HZ : Hid (w.heap.size + 1 ≤ wr.heap.size) := Lib.hid (by have := b2.out.size; have := HS.out; omega)
      have HE : Hid (Below w.heap.size w wr) := Lib.hid (HW.out.trans (b2.out.mono (Nat.le_succ _)))
      clear r2 hl2 ha
      unfold insO at r8 l8
      rw [a8] at r8 l8
      cases b
      · have HV := Lib.hid (insF_none q l a8)
        have R8 : Hid (Frow wr (w.heap.size + 1) A2 c2 l) := Lib.hid r8
        have L8 : Hid (l.length = m) := Lib.hid l8
        have HL := Lib.hid (lit_file wr q)
        clear r8 l8 a8
        go_wp2_with (at_builtin; refine wpList_append_frow _ rfl (.tmp 39) (.tmp 41) rfl (w.heap.size + 1) A2 c2 _ [q] _ m 1 1 rfl rfl L8.out rfl (R8.out.alloc _) (HL.out _ rfl) (by have := HZ.out; simp; omega) (by have := L8.out; simp; omega) ?_; intro A4 c4 w4 r4 b4 _; have R4 := Lib.hid r4; have B4 := Lib.hid (((HE.out.alloc (by have := HZ.out; omega) _)).trans (b4.mono (Nat.le_succ _))); clear r4 b4)
        go_ret
        rw [HV.out]
        exact ⟨A4, c4, ret_slice (by rw [List.length_append, L8.out]; rfl), R4.out.mono (Nat.le_succ _), B4.out⟩
      · have R8 : Hid (Frow wr (w.heap.size + 1) A2 c2 (insF q l)) := Lib.hid r8
        have L8 : Hid ((insF q l).length = m) := Lib.hid l8
        clear r8 l8 a8
        go_wp2_with fail
        go_ret
        exact ⟨A2, c2, ret_slice L8.out, R8.out.mono (Nat.le_succ _), HE.out⟩

end Go.Proofs.Ytjacjafpeajhaaa
