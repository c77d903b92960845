/-
  Walks: a log over its disk; synced; one segment on; a record put behind the others.
-/
import Derived.Test.YtjppklgegpmfpaaGreatDoorWgC
namespace Go.Proofs.YtjppklgegpmfpaaGreatDoor
open Go.RowKit
open Go.Maps

/-- A log and its disk, read. -/
structure Ls where
  m : Vm
  num : Nat
  len : Nat
/-- The blocks of the disk, and the log's. -/
def lown (d : Pk) (g lb k : Nat) : Prop := d.own g k ∨ k = lb
/-- A log over its disk. -/
structure LSt (w : World) (B g lb : Nat) (d : Pk) (s : Ls) (p : ByteArray) (size : Nat) : Prop where
  ps : PSt w B g d
  vm : d.vm = s.m
  lg : LgAt w lb g ⟨p, size, s.num, s.len⟩
  low : B ≤ lb
  off : ¬ d.own g lb
def LRest (w : World) (B g lb : Nat) (d : Pk) (p : ByteArray) (size : Nat) (s : Ls) (w' : World) : Prop := ∃ d', LSt w' B g lb d' s p size ∧ Does (lown d g lb) (lown d' g lb) w w'
theorem LSt.of {w w' : World} {B g lb : Nat} {d : Pk} {s : Ls} {p : ByteArray} {size : Nat} (h : LSt w B g lb d s p size) (hk : ∀ k, lown d g lb k → w'.heap[k]? = w.heap[k]?) : LSt w' B g lb d s p size :=
  ⟨h.ps.of (fun k hk' => hk k (.inl hk')), h.vm, h.lg.of (hk lb (.inr rfl)), h.low, h.off⟩
theorem LSt.owned {w : World} {B g lb : Nat} {d : Pk} {s : Ls} {p : ByteArray} {size : Nat} (h : LSt w B g lb d s p size) : ∀ k, lown d g lb k → B ≤ k ∧ k < w.heap.size := fun k hk => by
  rcases hk with hk | rfl
  · exact h.ps.owned k hk
  · exact ⟨h.low, h.lg.lt⟩
theorem LSt.kept {w w' : World} {B g lb : Nat} {d : Pk} {s : Ls} {p : ByteArray} {size : Nat} (h : LSt w B g lb d s p size) (hb : Below w.heap.size w w') : LSt w' B g lb d s p size := h.of (fun k hk => hb.block k (h.owned k hk).2)
theorem LSt.does {S S' : Nat → Prop} {w w' : World} {B g lb : Nat} {d : Pk} {s : Ls} {p : ByteArray} {size : Nat} (h : LSt w B g lb d s p size) (hb : Does S S' w w') (hS : ∀ k, S k → ¬ lown d g lb k) : LSt w' B g lb d s p size := h.of (fun k hk => hb.block k (h.owned k hk).2 (fun hs => hS k hs hk))
theorem LSt.size_le {w : World} {B g lb : Nat} {d : Pk} {s : Ls} {p : ByteArray} {size : Nat} (h : LSt w B g lb d s p size) : B ≤ w.heap.size := by have := h.low; have := h.lg.lt; omega
theorem LRest.refl {w w' : World} {B g lb : Nat} {d : Pk} {s : Ls} {p : ByteArray} {size : Nat} (h : LSt w B g lb d s p size) (hb : Below w.heap.size w w') : LRest w B g lb d p size s w' := ⟨d, h.kept hb, Does.of_below hb (fun _ hk => .inl hk)⟩
theorem LRest.below {w w' : World} {B g lb : Nat} {d : Pk} {s s' : Ls} {p : ByteArray} {size : Nat} (h : LSt w B g lb d s p size) (hr : LRest w B g lb d p size s' w') : Below B w w' := by
  obtain ⟨d', -, h2⟩ := hr
  exact h2.below h.size_le (fun k hk => (h.owned k hk).1)
/-- The disk alone is worked on. -/
theorem LSt.rest {w w' : World} {B g lb : Nat} {d : Pk} {s : Ls} {m : Vm} {p : ByteArray} {size : Nat} (h : LSt w B g lb d s p size) (hr : Rest w B g d m w') : LRest w B g lb d p size { s with m := m } w' := by
  obtain ⟨d', h1, h2, h3⟩ := hr
  refine ⟨d', ⟨h1, h2, h.lg.of (h3.block lb h.lg.lt h.off), h.low, fun hk => ?_⟩, ?_⟩
  · rcases h3.grows lb hk with hk | hk
    · exact h.off hk
    · have := h.lg.lt
      omega
  · refine ⟨h3.os, h3.tape, h3.output, h3.size, fun k hk hn => h3.block k hk (fun e => hn (.inl e)), fun k hk => ?_⟩
    rcases hk with hk | rfl
    · exact (h3.grows k hk).imp .inl id
    · exact .inl (.inr rfl)
theorem LRest.trans {w w1 w2 : World} {B g lb : Nat} {d d1 : Pk} {s1 s2 : Ls} {p : ByteArray} {size : Nat} (h : LSt w1 B g lb d1 s1 p size ∧ Does (lown d g lb) (lown d1 g lb) w w1) (k : LRest w1 B g lb d1 p size s2 w2) : LRest w B g lb d p size s2 w2 := by
  obtain ⟨d2, k1, k2⟩ := k
  exact ⟨d2, k1, h.2.trans k2⟩
/-- A cell of the log's own block turns. -/
theorem LSt.turn {w : World} {B g lb : Nat} {d : Pk} {s s' : Ls} {p : ByteArray} {size i : Nat} {v : Value} (h : LSt w B g lb d s p size) (hm : s'.m = s.m) (hl : LgAt (w.setCell ⟨lb, i, none⟩ v) lb g ⟨p, size, s'.num, s'.len⟩) : LSt (w.setCell ⟨lb, i, none⟩ v) B g lb d s' p size ∧ Does (lown d g lb) (lown d g lb) w (w.setCell ⟨lb, i, none⟩ v) := by
  have hb := belowx_set w.heap.size w lb i v
  refine ⟨⟨h.ps.of (fun k hk => hb.block k (h.ps.owned k hk).2 (fun e => h.off (e ▸ hk))), by rw [hm]; exact h.vm, hl, h.low, h.off⟩, ?_⟩
  exact ⟨hb.os, hb.tape, hb.output, hb.size, fun k hk hn => hb.block k hk (fun e => hn (.inr e)), fun k hk => .inl hk⟩

def Ls.sync (p : ByteArray) (s : Ls) : Ls × Int := if s.len = 0 then (s, 0) else ({ s with m := (s.m.sync (seg p s.num)).1 }, (s.m.sync (seg p s.num)).2)

theorem pre_size {p : ByteArray} (hp : IsPre p) (n : Nat) : (seg p n).size ≤ 140737488355328 := by
  rw [seg_size]
  have := hp.high
  omega
theorem pre_size' {p : ByteArray} (hp : IsPre p) : (tmp p).size ≤ 140737488355328 := by
  rw [tmp_size]
  have := hp.high
  omega

set_option maxRecDepth 100000 in
set_option maxHeartbeats 2000000 in
theorem syncLog_any (B g lb : Nat) (d : Pk) (s s' : Ls) (p : ByteArray) (size : Nat) (r : Int) (w : World) (h : LSt w B g lb d s p size) (hp : IsPre p) (hn : s.num ≤ 999999) (hT : Tab B w) (hr : s.sync p = (s', r)) :
    Calls Tryz.prog 12 #[.pointer (some ⟨lb, 0, none⟩)] w fun e w' => e = .returned (.int .i64 r) ∧ LRest w B g lb d p size s' w' := by
  obtain ⟨m, num, len⟩ := s
  have H := Lib.hid h
  obtain ⟨-, -, -, -, c4⟩ := h.lg.cell
  simp only at c4 hn
  have HC := Lib.hid (fun (W : World) (e : W.heap[lb]? = w.heap[lb]?) => (show W.cell? ⟨lb, 0, none⟩ = some (.pointer (some ⟨g, 0, none⟩)) ∧ W.cell? ⟨lb, 3, none⟩ = some (.int .i64 (num : Int)) from ⟨(h.lg.of e).cell.1, (h.lg.of e).cell.2.2.2.1⟩))
  have HL := Lib.hid h.lg.lt
  have HN := Lib.hid (fun (W : World) (hb : Below w.heap.size w W) => name_any B lb g num ⟨p, size, num, len⟩ W hp hn (h.lg.kept hb) (hT.on (hb.mono h.size_le)) (Nat.le_trans h.size_le hb.size))
  by_cases h0 : len = 0
  · subst h0
    have hs : Hid (s' = ⟨m, num, 0⟩ ∧ r = 0) := Lib.hid (by
      unfold Ls.sync at hr
      rw [if_pos rfl] at hr
      exact ⟨(congrArg Prod.fst hr).symm, (congrArg Prod.snd hr).symm⟩)
    clear h hr
    go_enter Tryz.func12, Tryz.ntmps12
    go_wp2_with fail
    go_ret
    obtain ⟨rfl, rfl⟩ := hs.out
    exact ⟨rfl, LRest.refl H.out (Below.refl _ _)⟩
  · have c0 : ((len : Int) == 0) = false := by simp; omega
    obtain ⟨m2, r2, h2⟩ : ∃ m2 r2, m.sync (seg p num) = (m2, r2) := ⟨_, _, rfl⟩
    have hs : Hid (s' = ⟨m2, num, len⟩ ∧ r = r2) := Lib.hid (by
      unfold Ls.sync at hr
      rw [if_neg h0] at hr
      simp only [h2] at hr
      exact ⟨(congrArg Prod.fst hr).symm, (congrArg Prod.snd hr).symm⟩)
    have HS : Hid (∀ W, Below w.heap.size w W → Calls Tryz.prog 27 #[.pointer (some ⟨g, 0, none⟩), .string (seg p num)] W fun e w' => e = .returned (.int .i64 r2) ∧ Rest W B g d m2 w') := Lib.hid (fun W hb => sync_vm B g d m m2 r2 (seg p num) W (h.ps.kept hb) h.vm (pre_size hp num) h2)
    simp only at HN
    generalize seg p num = sg at HN HS
    clear h hr h2 h0
    go_enter Tryz.func12, Tryz.ntmps12
    go_upto_region 5 with fail
    go_region_held3 (fun W => W.cell? ⟨lb, 0, none⟩ = some (.pointer (some ⟨g, 0, none⟩)) ∧ W.cell? ⟨lb, 3, none⟩ = some (.int .i64 (num : Int))) (first | exact HC.out _ E2.out | exact HC.out _ (E1.out.block _ HL.out) | exact HC.out _ rfl | go_keep) (first
      | (go_at_call 26; refine (HN.out _ (by repeat (first | exact Below.refl _ _ | refine Below.drew ?_))).mono ?_; rintro e w1 ⟨rfl, hb⟩; have E1 : Hid (Below w.heap.size w w1) := Lib.hid ((by repeat (first | exact Below.refl _ _ | refine Below.drew ?_) : Below w.heap.size w _).trans hb); clear hb)
      | (go_at_call 27; refine (HS.out _ (by first | exact E1.out | exact E1.out.drew)).mono ?_; rintro e w2 ⟨rfl, hb⟩; have E3 := Lib.hid (H.out.kept E1.out |>.rest hb); have E2 : Hid (w2.heap[lb]? = w.heap[lb]?) := Lib.hid (by obtain ⟨d', x1, x2, x3⟩ := hb; exact (x3.block lb (Nat.lt_of_lt_of_le HL.out E1.out.size) H.out.off).trans (E1.out.block lb HL.out)); clear hb))
    all_goals
      go_wp2_with fail
      go_ret
      obtain ⟨rfl, rfl⟩ := hs.out
      refine ⟨by simp, LRest.trans ⟨H.out.kept E1.out, Does.of_below E1.out (fun _ hk => .inl hk)⟩ E3.out⟩

end Go.Proofs.YtjppklgegpmfpaaGreatDoor
