/-
  Walks: the document's disk as it lies; a file found; may one more be done.
-/
import Derived.Test.YtjacjafpeajhaaaWkE
namespace Go.Proofs.Ytjacjafpeajhaaa
open Go.RowKit

/-- An object is worked on: its blocks alone turn, and what it has then was its own or is new. -/
structure Does (S S' : Nat → Prop) (w w' : World) : Prop where
  os : w'.os = w.os
  tape : w'.tape = w.tape
  output : w'.output = w.output
  size : w.heap.size ≤ w'.heap.size
  block : ∀ k, k < w.heap.size → ¬ S k → w'.heap[k]? = w.heap[k]?
  grows : ∀ k, S' k → S k ∨ w.heap.size ≤ k
theorem Does.refl (S : Nat → Prop) (w : World) : Does S S w w := ⟨rfl, rfl, rfl, Nat.le_refl _, fun _ _ _ => rfl, fun _ h => .inl h⟩
theorem Does.trans {S S' S'' : Nat → Prop} {a b c : World} (h : Does S S' a b) (k : Does S' S'' b c) : Does S S'' a c :=
  ⟨k.os.trans h.os, k.tape.trans h.tape, k.output.trans h.output, Nat.le_trans h.size k.size, fun i hi hg => (k.block i (by have := h.size; omega) (fun hs => (h.grows i hs).elim hg (fun h => by omega))).trans (h.block i hi hg), fun i hi => (k.grows i hi).elim (fun h' => h.grows i h') (fun h' => .inr (by have := h.size; omega))⟩
theorem Does.less {S S' T : Nat → Prop} {a b : World} (h : Does S S' a b) (hT : ∀ k, T k → S' k) : Does S T a b := ⟨h.os, h.tape, h.output, h.size, h.block, fun k hk => h.grows k (hT k hk)⟩
theorem Does.of_below {S S' : Nat → Prop} {a b : World} (h : Below a.heap.size a b) (hS : ∀ k, S' k → S k ∨ a.heap.size ≤ k) : Does S S' a b := ⟨h.os, h.tape, h.output, h.size, fun k hk _ => h.block k hk, hS⟩
theorem Does.below {S S' : Nat → Prop} {a b : World} {B : Nat} (h : Does S S' a b) (hB : B ≤ a.heap.size) (hS : ∀ k, S k → B ≤ k) : Below B a b :=
  ⟨h.os, h.tape, h.output, h.size, fun k hk => h.block k (by omega) (fun hs => by have := hS k hs; omega)⟩
theorem own_does {S S' : Nat → Prop} {w w' : World} {B : Nat} {e : TypeId} {size : Nat} {A : Option Addr} {n c : Nat} {xs : List Value} (h : w.ownsRow B e size (.slice A n c) n xs) (hk : Does S S' w w') (hS : ∀ ad, A = some ad → ¬ S ad.block) : w'.ownsRow B e size (.slice A n c) n xs := by
  refine ⟨h.1, ?_⟩
  rcases h.2 with hn | ⟨g, cap, cur, e1, h1, h2, h3⟩
  · exact .inl hn
  · refine .inr ⟨g, cap, cur, e1, h1, ?_, h3⟩
    injection e1 with e1
    rw [hk.block g (Array.getElem?_eq_some_iff.1 h2).1 (hS _ e1), h2]

/-- All below is as it was, but for one block. -/
structure BelowX (B g : Nat) (w w' : World) : Prop where
  os : w'.os = w.os
  tape : w'.tape = w.tape
  output : w'.output = w.output
  size : w.heap.size ≤ w'.heap.size
  block : ∀ k, k < B → k ≠ g → w'.heap[k]? = w.heap[k]?
theorem BelowX.refl (B g : Nat) (w : World) : BelowX B g w w := ⟨rfl, rfl, rfl, Nat.le_refl _, fun _ _ _ => rfl⟩
theorem BelowX.trans {B g : Nat} {a b c : World} (h : BelowX B g a b) (k : BelowX B g b c) : BelowX B g a c :=
  ⟨k.os.trans h.os, k.tape.trans h.tape, k.output.trans h.output, Nat.le_trans h.size k.size, fun i hi hg => (k.block i hi hg).trans (h.block i hi hg)⟩
theorem BelowX.mono {B C g : Nat} {a b : World} (h : BelowX B g a b) (hC : C ≤ B) : BelowX C g a b := ⟨h.os, h.tape, h.output, h.size, fun i hi hg => h.block i (by omega) hg⟩
theorem below_x {B g : Nat} {a b : World} (h : Below B a b) : BelowX B g a b := ⟨h.os, h.tape, h.output, h.size, fun i hi _ => h.block i hi⟩
theorem BelowX.below {B C g : Nat} {a b : World} (h : BelowX B g a b) (hC : C ≤ B) (hg : C ≤ g) : Below C a b := ⟨h.os, h.tape, h.output, h.size, fun i hi => h.block i (by omega) (by omega)⟩
theorem belowx_set (B : Nat) (w : World) (g i : Nat) (v : Value) : BelowX B g w (w.setCell ⟨g, i, none⟩ v) :=
  ⟨rfl, rfl, rfl, by simp, fun k _ hk => Below.heap_setCell w ⟨g, i, none⟩ v k hk⟩

/-- The document's disk. -/
structure Dk where
  A : Option Addr
  c : Nat
  l : List Fl
  ops : Int
  room : Int
  K : Option Addr
  kn : Nat
  kc : Nat
  done : Int
  down : Bool
def Dk.cells (d : Dk) : List Value := [.slice d.A d.l.length d.c, .int .i64 d.ops, .int .i64 d.room, .slice d.K d.kn d.kc, .int .i64 d.done, .bool d.down]
/-- It lies at a block. -/
def DkAt (w : World) (g : Nat) (d : Dk) : Prop := w.heap[g]? = some (.cells d.cells.toArray 44 (0, 0))
theorem DkAt.cell {w : World} {g : Nat} {d : Dk} (h : DkAt w g d) : w.cell? ⟨g, 0, none⟩ = some (.slice d.A d.l.length d.c) ∧ w.cell? ⟨g, 1, none⟩ = some (.int .i64 d.ops) ∧ w.cell? ⟨g, 2, none⟩ = some (.int .i64 d.room) ∧ w.cell? ⟨g, 3, none⟩ = some (.slice d.K d.kn d.kc) ∧ w.cell? ⟨g, 4, none⟩ = some (.int .i64 d.done) ∧ w.cell? ⟨g, 5, none⟩ = some (.bool d.down) := by
  unfold DkAt at h
  refine ⟨?_, ?_, ?_, ?_, ?_, ?_⟩ <;> simp [World.cell?, h, Dk.cells]
theorem DkAt.frozen {w : World} {g : Nat} {d : Dk} (h : DkAt w g d) (i : Nat) : w.frozen? ⟨g, i, none⟩ = false := by
  unfold DkAt at h
  simp [World.frozen?, h]
theorem DkAt.lt {w : World} {g : Nat} {d : Dk} (h : DkAt w g d) : g < w.heap.size := (Array.getElem?_eq_some_iff.1 h).1
theorem DkAt.set {w : World} {g : Nat} {d d' : Dk} (h : DkAt w g d) (i : Nat) (v : Value) (hd : d'.cells = d.cells.set i v) : DkAt (w.setCell ⟨g, i, none⟩ v) g d' := by
  unfold DkAt at h ⊢
  rw [hd]
  simp [World.setCell, Array.getElem?_modify, h]

/-- A file's place; -1: there is none. -/
def findI (s : ByteArray) (l : List Fl) : Int := ((l.findIdx? (fun q => decide (q.s = s))).map (fun i => (i : Int))).getD (-1)
theorem findI_at {s : ByteArray} {l : List Fl} {k : Nat} {q : Fl} (hq : l[k]? = some q) (h : q.s = s) (hb : ∀ (j : Nat) (q : Fl), j < k → l[j]? = some q → q.s ≠ s) : findI s l = (k : Int) := by
  have hk := (List.getElem?_eq_some_iff.1 hq).1
  have : l.findIdx? (fun q => decide (q.s = s)) = some k := by
    rw [List.findIdx?_eq_some_iff_getElem]
    refine ⟨hk, ?_, fun j hj => ?_⟩
    · rw [List.getElem?_eq_getElem hk] at hq
      injection hq with hq
      rw [hq]
      simpa using h
    · simpa using hb j _ hj (List.getElem?_eq_getElem (by omega))
  unfold findI
  rw [this]
  rfl
theorem findI_none {s : ByteArray} {l : List Fl} (hb : ∀ (j : Nat) (q : Fl), l[j]? = some q → q.s ≠ s) : findI s l = -1 := by
  have : l.findIdx? (fun q => decide (q.s = s)) = none := by
    rw [List.findIdx?_eq_none_iff]
    intro q hq
    obtain ⟨j, hj, e⟩ := List.mem_iff_getElem.1 hq
    simpa using hb j q (by rw [List.getElem?_eq_getElem hj, e])
  unfold findI
  rw [this]
  rfl

set_option maxHeartbeats 2000000 in
theorem refFind_any (g : Nat) (d : Dk) (s : ByteArray) (n : Nat) (w : World) (hd : DkAt w g d) (h : Lies w d.A (fvals d.l)) (hn : d.l.length = n) (hl : n ≤ 1048576) :
    Calls Try.prog 36 #[.pointer (some ⟨g, 0, none⟩), .string s] w fun e w' => e = .returned (.int .i64 (findI s d.l)) ∧ w = w' := by
  obtain ⟨c0, -⟩ := hd.cell
  obtain ⟨A, c, l⟩ := d
  simp only at c0 h hn ⊢
  rw [hn] at c0
  have HP := Lib.hid h
  have HN := Lib.hid hn
  obtain ⟨r, hr⟩ : ∃ r, findI s l = r := ⟨_, rfl⟩
  rw [hr]
  have HR := Lib.hid hr
  clear h hn hd hr
  go_enter Try.func36, Try.ntmps36
  go_wp2_with fail
  go_loop [11] (fun t11 => ∃ k : Nat, k ≤ n ∧ t11 = .int .i64 k ∧ Hid (∀ (j : Nat) (q : Fl), j < k → l[j]? = some q → q.s ≠ s)) (fun t11 => n - (intOf t11).toNat)
  case atStart => exact ⟨0, by omega, rfl, Lib.hid (fun j q hj => by omega)⟩
  case round =>
    obtain ⟨k, hk, rfl, hf⟩ := hrel
    by_cases hlt : k < n
    · have hq := List.getElem?_eq_getElem (l := l) (i := k) (by have := HN.out; omega)
      generalize l[k]'(by have := HN.out; omega) = q at hq
      obtain ⟨ad, rfl, a0, a1, a2⟩ := lies_file HP.out hq
      have HQ := Lib.hid hq
      clear hq a1 a2
      obtain ⟨qs, qd, qy⟩ := q
      simp only at a0
      by_cases e : qs = s
      · subst e
        have HV : Hid (r = (k : Int)) := Lib.hid (by rw [← HR.out]; exact findI_at HQ.out rfl hf.out)
        go_wp2_with fail
        go_ret
        rw [HV.out]
        exact ⟨rfl, rfl⟩
      · have d1 : (qs.toList == s.toList) = false := toList_ne e
        have HE := Lib.hid e
        clear e
        go_wp2_with fail
        go_round
        case rel => exact ⟨k + 1, by omega, by go_num, Lib.hid (fun j q hj hq => by
          by_cases e : j = k
          · subst e; rw [HQ.out] at hq; injection hq with hq; rw [← hq]; exact HE.out
          · exact hf.out j q (by omega) hq)⟩
        case measure => simp [intOf]; omega
    · obtain rfl : k = n := by omega
      have HV : Hid (r = -1) := Lib.hid (by rw [← HR.out]; exact findI_none (fun j q hq => hf.out j q (by have := (List.getElem?_eq_some_iff.1 hq).1; have := HN.out; omega) hq))
      go_wp2_with fail
      go_ret
      rw [HV.out]
      exact ⟨rfl, rfl⟩

/-- One more change, or the crash. -/
def Dk.change (d : Dk) : Dk × Int := if 0 ≤ d.ops ∧ d.ops ≤ d.done then ({ d with down := true }, 20) else ({ d with done := d.done + 1 }, 0)
/-- The disk's own block has turned. -/
def Turns (w : World) (g : Nat) (d : Dk) (r : Int) (e : Ending) (w' : World) : Prop := e = .returned (.int .i64 r) ∧ DkAt w' g d ∧ BelowX w.heap.size g w w'

set_option maxHeartbeats 2000000 in
theorem refChange_any (g : Nat) (d : Dk) (w : World) (hd : DkAt w g d) (hl : 0 ≤ d.done ∧ d.done ≤ 1099511627776) :
    Calls Try.prog 52 #[.pointer (some ⟨g, 0, none⟩)] w (Turns w g d.change.1 d.change.2) := by
  obtain ⟨c0, c1, c2, c3, c4, c5⟩ := hd.cell
  have f4 := hd.frozen 4
  have f5 := hd.frozen 5
  have HD := Lib.hid hd
  obtain ⟨hl0, hl1⟩ := hl
  obtain ⟨A, c, l, ops, room, K, kn, kc, done, down⟩ := d
  simp only at c0 c1 c2 c3 c4 c5 hl0 hl1
  obtain ⟨p, hp⟩ : ∃ p, Dk.change ⟨A, c, l, ops, room, K, kn, kc, done, down⟩ = p := ⟨_, rfl⟩
  rw [hp]
  have HV := Lib.hid hp
  clear hp hd
  by_cases h0 : 0 ≤ ops
  · by_cases h1 : ops ≤ done
    · have HR : Hid (p = (⟨A, c, l, ops, room, K, kn, kc, done, true⟩, 20)) := Lib.hid (by rw [← HV.out]; simp [Dk.change, h0, h1])
      go_enter Try.func52, Try.ntmps52
      go_upto_region 1 with fail
      go_quiet (fail)
      go_wp2_with fail
      go_ret
      rw [HR.out]
      refine ⟨rfl, ?_, ?_⟩
      · exact DkAt.set (d := ⟨A, c, l, ops, room, K, kn, kc, done, down⟩) HD.out 5 (.bool true) rfl
      · exact (below_x (below_drewN (Below.refl _ _) _)).trans (belowx_set _ _ g 5 (.bool true))
    · have d1 : decide (ops ≤ done) = false := by simpa using h1
      have HR : Hid (p = (⟨A, c, l, ops, room, K, kn, kc, done + 1, down⟩, 0)) := Lib.hid (by rw [← HV.out]; simp [Dk.change, h1])
      go_enter Try.func52, Try.ntmps52
      go_upto_region 1 with fail
      go_quiet (fail)
      go_wp2_with fail
      go_ret
      rw [HR.out]
      refine ⟨rfl, ?_, ?_⟩
      · exact DkAt.set (d := ⟨A, c, l, ops, room, K, kn, kc, done, down⟩) HD.out 4 (.int .i64 (done + 1)) rfl
      · exact (below_x (below_drewN (Below.refl _ _) _)).trans (belowx_set _ _ g 4 (.int .i64 (done + 1)))
  · have HR : Hid (p = (⟨A, c, l, ops, room, K, kn, kc, done + 1, down⟩, 0)) := Lib.hid (by rw [← HV.out]; simp [Dk.change, h0])
    have d0 : decide (0 ≤ ops) = false := by simpa using h0
    go_enter Try.func52, Try.ntmps52
    go_upto_region 1 with fail
    go_quiet (fail)
    go_wp2_with fail
    go_ret
    rw [HR.out]
    refine ⟨rfl, ?_, ?_⟩
    · exact DkAt.set (d := ⟨A, c, l, ops, room, K, kn, kc, done, down⟩) HD.out 4 (.int .i64 (done + 1)) rfl
    · exact (below_x (below_drewN (Below.refl _ _) _)).trans (belowx_set _ _ g 4 (.int .i64 (done + 1)))

/-- The errors of a call of a file that is there. -/
def Dk.named (d : Dk) (s t : ByteArray) : Int := if d.down then 20 else if (okName s && okName t) = false then 23 else if findI s d.l < 0 then 22 else 0

set_option maxHeartbeats 2000000 in
theorem refNamed_any (g : Nat) (d : Dk) (s t : ByteArray) (n : Nat) (w : World) (hd : DkAt w g d) (h : Lies w d.A (fvals d.l)) (hn : d.l.length = n) (hl : n ≤ 1048576) (hs : s.size ≤ 281474976710656) (ht : t.size ≤ 281474976710656) :
    Calls Try.prog 65 #[.pointer (some ⟨g, 0, none⟩), .string s, .string t] w fun e w' => e = .returned (.int .i64 (d.named s t)) ∧ w = w' := by
  obtain ⟨c0, c1, c2, c3, c4, c5⟩ := hd.cell
  have HF := Lib.hid (refFind_any g d s n w hd h hn hl)
  have HS := Lib.hid (refName_any s w hs)
  have HT := Lib.hid (refName_any t w ht)
  obtain ⟨p, hp⟩ : ∃ p, d.named s t = p := ⟨_, rfl⟩
  rw [hp]
  have HV := Lib.hid hp
  clear hp hs ht c0 c1 c2 c3 c4 h hd hn
  obtain ⟨f, hf⟩ : ∃ f, findI s d.l = f := ⟨_, rfl⟩
  rw [hf] at HF
  cases hdn : d.down
  · rw [hdn] at c5
    cases h1 : okName s
    · rw [h1] at HS
      have HR : Hid (p = 23) := Lib.hid (by rw [← HV.out]; simp [Dk.named, hdn, h1])
      clear h1 hdn
      go_enter Try.func65, Try.ntmps65
      go_wp2_with (go_at_call 35; refine HS.out.mono ?_; rintro e w1 ⟨rfl, rfl⟩)
      go_ret
      rw [HR.out]
      exact ⟨rfl, rfl⟩
    · rw [h1] at HS
      cases h2 : okName t
      · rw [h2] at HT
        have HR : Hid (p = 23) := Lib.hid (by rw [← HV.out]; simp [Dk.named, hdn, h2])
        clear h1 h2 hdn
        go_enter Try.func65, Try.ntmps65
        go_wp2_with (first | (go_at_call 35; refine HS.out.mono ?_; rintro e w1 ⟨rfl, rfl⟩; clear HS) | (go_at_call 35; refine HT.out.mono ?_; rintro e w1 ⟨rfl, rfl⟩; clear HT))
        go_ret
        rw [HR.out]
        exact ⟨rfl, rfl⟩
      · rw [h2] at HT
        by_cases h3 : f < 0
        · have HR : Hid (p = 22) := Lib.hid (by rw [← HV.out]; simp [Dk.named, hdn, h1, h2, hf, h3])
          clear h1 h2 hdn hf
          go_enter Try.func65, Try.ntmps65
          go_wp2_with (first | (go_at_call 35; refine HS.out.mono ?_; rintro e w1 ⟨rfl, rfl⟩; clear HS) | (go_at_call 35; refine HT.out.mono ?_; rintro e w1 ⟨rfl, rfl⟩; clear HT) | (go_at_call 36; refine HF.out.mono ?_; rintro e w1 ⟨rfl, rfl⟩))
          go_ret
          rw [HR.out]
          exact ⟨rfl, rfl⟩
        · have HR : Hid (p = 0) := Lib.hid (by rw [← HV.out]; simp [Dk.named, hdn, h1, h2, hf, h3])
          have d3 : decide (f < 0) = false := by simpa using h3
          clear h1 h2 hdn hf
          go_enter Try.func65, Try.ntmps65
          go_wp2_with (first | (go_at_call 35; refine HS.out.mono ?_; rintro e w1 ⟨rfl, rfl⟩; clear HS) | (go_at_call 35; refine HT.out.mono ?_; rintro e w1 ⟨rfl, rfl⟩; clear HT) | (go_at_call 36; refine HF.out.mono ?_; rintro e w1 ⟨rfl, rfl⟩))
          go_ret
          rw [HR.out]
          exact ⟨rfl, rfl⟩
  · rw [hdn] at c5
    have HR : Hid (p = 20) := Lib.hid (by rw [← HV.out]; simp [Dk.named, hdn])
    clear hdn
    go_enter Try.func65, Try.ntmps65
    go_wp2_with fail
    go_ret
    rw [HR.out]
    exact ⟨rfl, rfl⟩

end Go.Proofs.Ytjacjafpeajhaaa
