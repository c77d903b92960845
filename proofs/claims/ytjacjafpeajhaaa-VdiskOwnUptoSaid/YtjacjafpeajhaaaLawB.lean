/-
  The law VdiskCounts, walked.
-/
import Derived.Test.YtjacjafpeajhaaaVms
import Derived.Test.YtjacjafpeajhaaaLast
namespace Go.Proofs.Ytjacjafpeajhaaa
open Go.RowKit
open Go.Maps

/-- What a change does to a disk that hasn't crashed and has room. -/
def Trans (m : Vm) (q : Vm × Int) (c : Nat) : Prop :=
  (q.2 ≠ 0 ∧ q.2 ≠ 20 ∧ q.1 = m) ∨ (q.2 = 20 ∧ m.left = 0 ∧ q.1 = { m with down := true }) ∨ (q.2 = 0 ∧ m.left ≠ 0 ∧ ∃ fs', q.1 = { m with left := if 0 < m.left then m.left - 1 else m.left, fs := fs' } ∧ Le7 m.fs fs' c 1048576)
theorem trans_does {m : Vm} {names : List ByteArray} {s : ByteArray} {f : List Rd → List Rd} {c : Nat} (hd : m.down = false) (hf : Le7 m.fs (f m.fs) c 1048576) : Trans m (m.does (m.hinder names s) f) c := by
  rcases does_ways m (m.hinder names s) f with ⟨h, e⟩ | ⟨_, h, e⟩ | ⟨_, h, e⟩
  · rw [e]
    refine .inl ⟨h, fun e2 => ?_, rfl⟩
    simp only at e2
    rcases hinder_not (names := names) (s := s) hd with h2 | h2 | h2 <;> omega
  · rw [e]
    exact .inr (.inl ⟨rfl, h, rfl⟩)
  · rw [e]
    exact .inr (.inr ⟨rfl, h, _, rfl, hf⟩)
theorem trans_append {m : Vm} {s : ByteArray} {b : List Int} (hd : m.down = false) (hr : m.room = -1) (hs : s.size ≤ 1048576) : Trans m (m.append s b) b.length := by
  have e : m.append s b = m.does (readyE m.down [s]) (fun fs => appM s b (if findM s fs = none then insM (s, [], 0) fs else fs)) := by
    unfold Vm.append Vm.does
    rw [hr]
    by_cases h : readyE m.down [s] = 0
    · rw [if_neg (show ¬ readyE m.down [s] ≠ 0 by simp [h]), if_neg (show ¬ (0 ≤ (-1 : Int) ∧ (-1 : Int) < ((b.length + sumM m.fs : Nat) : Int)) by omega), if_neg (show ¬ readyE m.down [s] ≠ 0 by simp [h])]
    · rw [if_pos h, if_pos h]
  rw [e]
  rcases does_ways m (readyE m.down [s]) (fun fs => appM s b (if findM s fs = none then insM (s, [], 0) fs else fs)) with ⟨h, e⟩ | ⟨_, h, e⟩ | ⟨_, h, e⟩
  · rw [e]
    refine .inl ⟨h, fun e2 => ?_, rfl⟩
    simp only at e2
    unfold readyE at e2
    rw [hd] at e2
    by_cases h3 : [s].all okName = true
    · simp [h3] at e2
    · simp [h3] at e2
  · rw [e]
    exact .inr (.inl ⟨rfl, h, rfl⟩)
  · rw [e]
    exact .inr (.inr ⟨rfl, h, _, rfl, app_le s b m.fs _ hs⟩)
theorem read_not {m : Vm} {s : ByteArray} (hd : m.down = false) : (m.read s).2 ≠ 20 := by
  unfold Vm.read
  rcases hinder_not (names := [s]) (s := s) hd with h | h | h <;> rw [h] <;> simp
/-- The disk as it counts. -/
structure Cnt (m : Vm) (k S : Nat) (left : Int) : Prop where
  few : m.fs.length ≤ k
  sum : sumM m.fs ≤ S
  names : ∀ x ∈ m.fs, x.1.size ≤ 1048576
  left : m.left = left
  room : m.room = -1
  down : m.down = false
theorem Cnt.fits {m : Vm} {k S : Nat} {left : Int} (h : Cnt m k S left) (hk : k ≤ 1048576) (hS : S ≤ 1048576) {N : Nat} (hN : N ≤ 1048576) : Fits m N :=
  ⟨by have := h.few; omega, fun x hx => by have := long_le hx; have := h.sum; omega, fun x hx => by have := h.names x hx; omega⟩
theorem Cnt.more {m : Vm} {k S k' S' : Nat} {left : Int} (h : Cnt m k S left) (hk : k ≤ k') (hS : S ≤ S') : Cnt m k' S' left := ⟨by have := h.few; omega, by have := h.sum; omega, h.names, h.left, h.room, h.down⟩
theorem Cnt.next {m : Vm} {k S c : Nat} {left : Int} {fs' : List Rd} (h : Cnt m k S left) (hl : Le7 m.fs fs' c 1048576) (h0 : 0 < left) : Cnt { m with left := if 0 < m.left then m.left - 1 else m.left, fs := fs' } (k + 1) (S + c) (left - 1) :=
  ⟨by have := h.few; have := hl.few; show fs'.length ≤ _; omega, by have := h.sum; have := hl.sum; show sumM fs' ≤ _; omega, hl.names h.names, by show (if 0 < m.left then m.left - 1 else m.left) = _; rw [h.left, if_pos h0], h.room, h.down⟩
theorem sum_takeA {l : List Ac} {k : Nat} {a : Ac} (h : l[k]? = some a) : sumA (l.take (k + 1)) = sumA (l.take k) + a.d.l.length := by
  unfold sumA
  rw [List.take_add_one, h]
  simp
theorem sum_takeA_le (l : List Ac) (k : Nat) : sumA (l.take k) ≤ sumA l := by
  have : sumA l = sumA (l.take k) + sumA (l.drop k) := by
    unfold sumA
    rw [← List.sum_append, ← List.map_append, List.take_append_drop]
  omega
/-- The cells of one call. -/
theorem act_cells {w : World} {A : Option Addr} {l : List Ac} {k : Nat} {a : Ac} (h : Lies w A (avals l)) (ha : l[k]? = some a) : ∃ ad, A = some ad ∧ ∀ j u, a.cells[j]? = some u → w.cell? ((ad.add (k * 7)).add j) = some u := by
  have key : ∀ (l : List Ac) (k : Nat), l[k]? = some a → ∀ j u, a.cells[j]? = some u → (avals l)[k * 7 + j]? = some u := by
    intro l
    induction l with
    | nil => intro k h; simp at h
    | cons x l ih =>
      intro k hk j u hu
      have e : avals (x :: l) = x.cells ++ avals l := rfl
      have hx : x.cells.length = 7 := rfl
      cases k with
      | zero =>
        simp at hk
        subst hk
        have hj : j < 7 := (List.getElem?_eq_some_iff.1 hu).1
        rw [e, List.getElem?_append_left (by omega), Nat.zero_mul, Nat.zero_add]
        exact hu
      | succ k =>
        rw [e, List.getElem?_append_right (by omega), hx, show (k + 1) * 7 + j - 7 = k * 7 + j by omega]
        exact ih k (by simpa using hk) j u hu
  rcases h with h | ⟨ad, rfl, h⟩
  · have := key l k ha 0 _ rfl
    rw [h] at this
    simp at this
  · exact ⟨ad, rfl, fun j u hu => by rw [add_add]; exact h _ _ (key l k ha j u hu)⟩
/-- .. as a walk spells them. -/
theorem act_at {w : World} {A : Option Addr} {l : List Ac} {k : Nat} {a : Ac} (h : Lies w A (avals l)) (ha : l[k]? = some a) : ∃ ad, A = some ad ∧ w.cell? (ad.add (k * 7)) = some (.int .i64 a.kind) ∧ w.cell? ⟨(ad.add (k * 7)).block, (ad.add (k * 7)).off + 1, none⟩ = some (.string a.s) ∧ w.cell? ⟨(ad.add (k * 7)).block, (ad.add (k * 7)).off + 2, none⟩ = some (.string a.t) ∧ w.cell? ⟨(ad.add (k * 7)).block, (ad.add (k * 7)).off + 3, none⟩ = some a.d.val ∧
    w.cell? ⟨(ad.add (k * 7)).block, (ad.add (k * 7)).off + 4, none⟩ = some (.int .i64 a.ops) ∧ w.cell? ⟨(ad.add (k * 7)).block, (ad.add (k * 7)).off + 5, none⟩ = some (.int .i64 a.room) ∧ w.cell? ⟨(ad.add (k * 7)).block, (ad.add (k * 7)).off + 6, none⟩ = some (.slice a.K a.keep.length a.kc) := by
  obtain ⟨ad, hA, hc⟩ := act_cells h ha
  have key : ∀ j u, 0 < j → a.cells[j]? = some u → w.cell? ⟨(ad.add (k * 7)).block, (ad.add (k * 7)).off + j, none⟩ = some u := fun j u hj hu => by
    have := hc j u hu
    generalize ad.add (k * 7) = E at this ⊢
    unfold Addr.add at this
    rwa [if_neg (by omega)] at this
  refine ⟨ad, hA, ?_, key 1 _ (by omega) rfl, key 2 _ (by omega) rfl, key 3 _ (by omega) rfl, key 4 _ (by omega) rfl, key 5 _ (by omega) rfl, key 6 _ (by omega) rfl⟩
  have := hc 0 _ rfl
  simpa [Addr.add] using this
theorem step_append_new (w : World) : Row (w.alloc (.cells #[] 5)) w.heap.size (some ⟨w.heap.size, 0, none⟩) 0 [] := row_made _ _ [] #[] rfl (by simp) (Nat.le_refl _)

theorem append_down {X0 X w : World} {B g : Nat} {p : Pk} {m : Vm} (hf : Fits p.vm 0) (hsum : sumM p.vm.fs ≤ 4611686018427387904) (hE : m = { p.vm with down := true }) (hr : Rest X0 B g p m X) (hb : Below w.heap.size w X) (hB : w.heap.size ≤ B) :
    Calls Try.prog 19 #[.pointer (some ⟨g, 0, none⟩), .string ⟨#[97]⟩, .slice none 0 0] X fun e w' => e = .returned (.int .i64 20) ∧ Below w.heap.size w w' := by
  obtain ⟨p9, e1, e2, -⟩ := hr
  subst hE
  refine (append_vm B g p9 { p.vm with down := true } { p.vm with down := true } 20 ⟨#[97]⟩ none [] 0 0 X e1 e2 (by decide) rfl Byt.nil (.inl rfl) (fun ad h => by cases h) ⟨hf.few, hf.long, hf.names⟩ (by show sumM p.vm.fs + 0 ≤ _; omega) (by omega) rfl).mono ?_
  rintro e w' ⟨rfl, hr2⟩
  exact ⟨rfl, hb.trans ((Rest.below e1 hr2).mono hB)⟩

set_option maxRecDepth 100000 in
set_option maxHeartbeats 8000000 in
theorem lawCounts (n : Int) (A : Option Addr) (l : List Ac) (ln lc : Nat) (w : World) (hn : -9223372036854775808 ≤ n ∧ n ≤ 9223372036854775807) (h : AcsUp w A l ln lc) :
    Calls Try.prog 5 #[.int .i64 n, .slice A ln lc] w fun e w' => e = .returned (.bool true) ∧ Below w.heap.size w w' := by
  have HL := Lib.hid (And.intro h.len (And.intro h.sum h.each))
  have HP := Lib.hid (fun (W : World) (hb : Below w.heap.size w W) => h.lies.kept hb)
  have hln : ln ≤ 1048576 := by have := h.sum; omega
  obtain ⟨hn0, hn1⟩ := hn
  clear h
  go_enter Try.func5, Try.ntmps5
  go_upto_region 4 with (go_at_call 9; refine (wakes_any w).mono ?_; rintro e w1 ⟨rfl, hb⟩; have B1 := Lib.hid hb; clear hb)
  obtain ⟨nn, hnn⟩ : ∃ nn : Int, wrap64 ((IntKind.u64.wrap n).tmod 20) = nn := ⟨_, rfl⟩
  have hnn2 : 0 ≤ nn ∧ nn < 20 := by
    have h1 : 0 ≤ IntKind.u64.wrap n := by
      simp only [IntKind.wrap, IntKind.signed, IntKind.bits]
      simp
      omega
    have h2 := Int.tmod_lt_of_pos (IntKind.u64.wrap n) (b := 20) (by omega)
    have h3 := Int.tmod_nonneg (a := IntKind.u64.wrap n) 20 h1
    rw [← hnn]
    unfold wrap64
    omega
  rw [hnn]
  clear hnn
  obtain ⟨hnn0, hnn1⟩ := hnn2
  have HN := Lib.hid (new_any nn (-1) none [] 0 0 w1 rfl (.inl rfl) (by omega) (fun x hx => (List.not_mem_nil hx).elim) (by omega) (by omega))
  go_upto_region 6 with (go_at_call 20; refine HN.out.mono ?_; rintro e w2 ⟨g, p0, rfl, h0, v0, b0⟩; have S0 := Lib.hid (And.intro h0 v0); have B2 : Hid (Below w.heap.size w w2) := Lib.hid (B1.out.trans (b0.mono B1.out.size)); clear h0 v0 b0)
  have HC0 : Hid (Cnt p0.vm 0 0 nn) := Lib.hid (by rw [S0.out.2]; exact ⟨Nat.le_refl _, Nat.le_refl _, fun x hx => (List.not_mem_nil hx).elim, rfl, rfl, rfl⟩)
  have HLO : Hid (w.heap.size ≤ w1.heap.size) := Lib.hid B1.out.size
  go_wp2_with fail
  go_loopw [6, 21] (fun t6 t21 wr => ∃ (k : Nat) (done : Int) (p : Pk), k ≤ ln ∧ 0 ≤ done ∧ done ≤ nn ∧ t21 = .int .i64 k ∧ t6 = .int .i64 done ∧ Hid (PSt wr w1.heap.size g p) ∧ Hid (Cnt p.vm k (sumA (l.take k)) (nn - done)) ∧ Hid (Below w.heap.size w wr)) (fun _ t21 _ => ln - (intOf t21).toNat)
  case atStart => exact ⟨0, 0, p0, by omega, by omega, by omega, rfl, rfl, Lib.hid S0.out.1, Lib.hid (by simpa [sumA] using HC0.out), B2⟩
  case round =>
    obtain ⟨k, done, p, hk, hd0, hd1, rfl, rfl, hs, hc, hb⟩ := hrel
    by_cases hlt : k < ln
    · have hq := List.getElem?_eq_getElem (l := l) (i := k) (by have := HL.out.1; omega)
      generalize l[k]'(by have := HL.out.1; omega) = a at hq
      have ha := HL.out.2.2 a (List.mem_of_getElem? hq)
      obtain ⟨ad, rfl, x0, x1, x2, x3, x4, x5, x6⟩ := act_at (HP.out _ hb.out) hq
      have HSA := Lib.hid (sum_takeA hq)
      have HSB := Lib.hid (sum_takeA_le l (k + 1))
      obtain ⟨kind, s, t, ⟨da, dc, dl⟩, ops, room, K, keep, kc⟩ := a
      unfold Sl.val at x3
      simp only at x0 x1 x2 x3 x4 x5 x6 HSA
      obtain ⟨dn, hdn⟩ : ∃ dn, dl.length = dn := ⟨_, rfl⟩
      obtain ⟨kn, hkn⟩ : ∃ kn, keep.length = kn := ⟨_, rfl⟩
      rw [hdn] at x3 HSA
      rw [hkn] at x6
      have HAC := Lib.hid (And.intro ha (And.intro hdn hkn))
      obtain ⟨hk0, hk1⟩ := ha.kind
      simp only at hk0 hk1
      obtain ⟨W1, hW1⟩ : ∃ W1, wr.alloc (.cells #[.int .i64 kind, .string s, .string t, .slice da dn dc, .int .i64 ops, .int .i64 room, .slice K kn kc] 40) = W1 := ⟨_, rfl⟩
      have HB1 : Hid (Below wr.heap.size wr W1) := Lib.hid (hW1 ▸ below_new _ _)
      have HS1 : Hid (W1.heap.size = wr.heap.size + 1) := Lib.hid (by rw [← hW1]; simp)
      have HC1 : Hid (W1.cell? ⟨wr.heap.size, 0, none⟩ = some (.int .i64 kind) ∧ W1.cell? ⟨wr.heap.size, 1, none⟩ = some (.string s) ∧ W1.cell? ⟨wr.heap.size, 2, none⟩ = some (.string t) ∧ W1.cell? ⟨wr.heap.size, 3, none⟩ = some (.slice da dn dc)) := Lib.hid (by rw [← hW1]; exact ⟨lit_cell wr _ _ 0, lit_cell wr _ _ 1, lit_cell wr _ _ 2, lit_cell wr _ _ 3⟩)
      have HP1 := Lib.hid (hs.out.kept HB1.out)
      obtain ⟨b0, b1, b2, b3⟩ := HC1.out
      obtain ⟨r6, h6⟩ : ∃ r6, kind.tmod 6 = r6 := ⟨_, rfl⟩
      clear hq ha hdn hkn
      go_upto_region 14 with fail
      have HSZ : Hid (s.size ≤ 140737488355328 ∧ t.size ≤ 140737488355328 ∧ dn ≤ 1048576 ∧ sumM p.vm.fs + dn ≤ 4611686018427387904) := Lib.hid (by
        have h1 : s.size ≤ 1048576 := HAC.out.1.ss
        have h2 : t.size ≤ 1048576 := HAC.out.1.ts
        have h3 := HSA.out
        have h4 := HSB.out
        have h5 := HL.out.2.1
        have h6 := hc.out.sum
        exact ⟨by omega, by omega, by omega, by omega⟩)
      have HFIT : Hid (∀ N, N ≤ 1048576 → Fits p.vm N) := Lib.hid (fun N hN => hc.out.fits (by omega) (by have := HSA.out; have := HSB.out; have := HL.out.2.1; omega) hN)
      by_cases n0 : r6 = 0
      · subst n0
        obtain ⟨q, hqq⟩ : ∃ q, p.vm.append s dl = q := ⟨_, rfl⟩
        have HT : Hid (Trans p.vm q dl.length) := Lib.hid (hqq ▸ trans_append hc.out.down hc.out.room HAC.out.1.ss)
        obtain ⟨q1, q2⟩ := q
        have HCA : Hid (∀ (A5 : Option Addr) (c5 : Nat) (X : World), Row X W1.heap.size A5 c5 dl → Below W1.heap.size W1 X → Calls Try.prog 19 #[.pointer (some ⟨g, 0, none⟩), .string s, .slice A5 dn c5] X fun e w' => e = .returned (.int .i64 q2) ∧ (Rest X w1.heap.size g p q1 w' ∧ Below w.heap.size w w') ∧ w'.cell? ⟨wr.heap.size, 1, none⟩ = some (.string s) ∧ w'.cell? ⟨wr.heap.size, 3, none⟩ = some (.slice da dn dc)) := Lib.hid (fun A5 c5 X hr5 hb5 => by
          refine (append_vm w1.heap.size g p p.vm q1 q2 s A5 dl dn c5 X (hs.out.kept (HB1.out.trans (hb5.mono HB1.out.size))) rfl HSZ.out.1 HAC.out.2.1 HAC.out.1.data.byt hr5.lies (fun ad h5 => ⟨fun hk5 => by have := (own_in hr5 ad h5).1; have := (hs.out.owned _ hk5).2; have := HS1.out; omega, (own_in hr5 ad h5).2⟩) (HFIT.out dn HSZ.out.2.2.1) HSZ.out.2.2.2 (by have := HSZ.out.2.2.1; omega) hqq).mono ?_
          rintro e w' ⟨he, hr⟩
          have hbX : Below wr.heap.size wr X := HB1.out.trans (hb5.mono HB1.out.size)
          have hbe : w'.heap[wr.heap.size]? = W1.heap[wr.heap.size]? := by
            obtain ⟨p9, -, -, d9⟩ := hr
            rw [d9.block _ (by have := hb5.size; have := HS1.out; omega) (fun hk5 => by have := (hs.out.owned _ hk5).2; omega), hb5.block _ (by have := HS1.out; omega)]
          exact ⟨he, ⟨hr, (hb.out.trans (hbX.mono hb.out.size)).trans ((Rest.below (hs.out.kept hbX) hr).mono HLO.out)⟩, (World.cell?_of_block hbe).trans HC1.out.2.1, (World.cell?_of_block hbe).trans HC1.out.2.2.2⟩)
        clear hqq
        rcases HT.out with ⟨h1, h2, h3⟩ | ⟨h1, h2, h3⟩ | ⟨h1, h2, fs', h3, h4⟩
        · simp only at h1 h2 h3
          have d0 : (q2 == 0) = false := by simpa using h1
          have d20 : (q2 == 20) = false := by simpa using h2
          have HE := Lib.hid h3
          clear h1 h2 h3
          go_upto_region 15 with fail
          have RA : Hid (Row (W1.alloc (.cells #[] 5)) W1.heap.size (some ⟨W1.heap.size, 0, none⟩) 0 []) := Lib.hid (step_append_new W1)
          have BA : Hid (Below W1.heap.size W1 (W1.alloc (.cells #[] 5))) := Lib.hid (below_new _ _)
          have HBY : Hid (∀ X, Below W1.heap.size W1 X → Bys X da dl) := Lib.hid (fun X hb5 => HAC.out.1.data.bys.kept (hb.out.trans ((HB1.out.trans (hb5.mono HB1.out.size)).mono hb.out.size)))
          have HKB : Hid (∀ X, Below W1.heap.size W1 X → X.cell? ⟨wr.heap.size, 1, none⟩ = some (.string s) ∧ X.cell? ⟨wr.heap.size, 3, none⟩ = some (.slice da dn dc)) := Lib.hid (fun X hb5 => ⟨(World.cell?_of_block (hb5.block _ (by have := HS1.out; show wr.heap.size < _; omega))).trans HC1.out.2.1, (World.cell?_of_block (hb5.block _ (by have := HS1.out; show wr.heap.size < _; omega))).trans HC1.out.2.2.2⟩)
          go_region_held3 (fun X => X.cell? ⟨wr.heap.size, 1, none⟩ = some (.string s) ∧ X.cell? ⟨wr.heap.size, 3, none⟩ = some (.slice da dn dc)) (first | exact C6.out | exact HKB.out _ (by repeat (first | exact Below.refl _ _ | exact B5.out | refine Below.drew ?_ | refine Below.alloc ?_ (Nat.le_refl _) _)) | go_keep) (first
            | (refine step_append_row _ (by rfl) (.tmp 43) (.tmp 45) (by rfl) W1.heap.size (some ⟨W1.heap.size, 0, none⟩) 0 [] dl da 0 dn dc (by first | rfl | simp [Act.eval]) (by first | rfl | simp [Act.eval]) rfl HAC.out.2.1 (Row.kept (C := (W1.alloc (.cells #[] 5)).heap.size) RA.out (by repeat (first | exact Below.refl _ _ | refine Below.drew ?_)) (Nat.le_refl _)) (HBY.out _ (by repeat (first | exact Below.refl _ _ | refine Below.drew ?_ | refine Below.alloc ?_ (Nat.le_refl _) _))) (by first | exact BA.out.size | simp) (by have := HSZ.out.2.2.1; have := HAC.out.2.1; simp only [List.length_nil]; omega) ?_; intro A5 c5 w5 r5 b5; have R5 := Lib.hid r5; have B5 : Hid (Below W1.heap.size W1 w5) := Lib.hid ((by repeat (first | exact Below.refl _ _ | refine Below.drew ?_ | refine Below.alloc ?_ (Nat.le_refl _) _) : Below W1.heap.size W1 _).trans b5); clear r5 b5)
            | (go_at_call 19; refine (HCA.out A5 c5 _ (Row.kept (C := w5.heap.size) R5.out (by repeat (first | exact Below.refl _ _ | refine Below.drew ?_)) (Nat.le_refl _)) (by repeat (first | exact B5.out | refine Below.drew ?_))).mono ?_; rintro e w6 ⟨rfl, he6, hc6⟩; have E6 := Lib.hid he6; have C6 := Lib.hid hc6; clear he6 hc6))
          go_wp2_with fail
          go_roundw
          case rel =>
            obtain ⟨⟨p9, e1, e2, -⟩, e4⟩ := E6.out
            exact ⟨k + 1, done, p9, by omega, hd0, hd1, by go_num, rfl, Lib.hid e1, Lib.hid (by rw [e2, HE.out]; exact hc.out.more (by omega) (by rw [HSA.out]; omega)), Lib.hid e4⟩
          case measure => simp [intOf]; omega
        · simp only at h1 h2 h3
          subst h1
          have hdn2 : (done == nn) = true := by rw [hc.out.left] at h2; rw [beq_iff_eq]; omega
          have HE := Lib.hid h3
          have HDN : Hid (∀ X, ((∃ X5, Rest X5 w1.heap.size g p q1 X) ∧ Below w.heap.size w X) → Calls Try.prog 19 #[.pointer (some ⟨g, 0, none⟩), .string ⟨#[97]⟩, .slice none 0 0] X fun e w' => e = .returned (.int .i64 20) ∧ Below w.heap.size w w') := Lib.hid (fun X hX => (by obtain ⟨⟨X5, h5⟩, h6⟩ := hX; exact append_down (HFIT.out 0 (by omega)) (by have := HSZ.out.2.2.2; omega) HE.out h5 h6 HLO.out))
          clear h2 h3
          go_upto_region 15 with fail
          have RA : Hid (Row (W1.alloc (.cells #[] 5)) W1.heap.size (some ⟨W1.heap.size, 0, none⟩) 0 []) := Lib.hid (step_append_new W1)
          have BA : Hid (Below W1.heap.size W1 (W1.alloc (.cells #[] 5))) := Lib.hid (below_new _ _)
          have HBY : Hid (∀ X, Below W1.heap.size W1 X → Bys X da dl) := Lib.hid (fun X hb5 => HAC.out.1.data.bys.kept (hb.out.trans ((HB1.out.trans (hb5.mono HB1.out.size)).mono hb.out.size)))
          have HKB : Hid (∀ X, Below W1.heap.size W1 X → X.cell? ⟨wr.heap.size, 1, none⟩ = some (.string s) ∧ X.cell? ⟨wr.heap.size, 3, none⟩ = some (.slice da dn dc)) := Lib.hid (fun X hb5 => ⟨(World.cell?_of_block (hb5.block _ (by have := HS1.out; show wr.heap.size < _; omega))).trans HC1.out.2.1, (World.cell?_of_block (hb5.block _ (by have := HS1.out; show wr.heap.size < _; omega))).trans HC1.out.2.2.2⟩)
          go_region_held3 (fun X => X.cell? ⟨wr.heap.size, 1, none⟩ = some (.string s) ∧ X.cell? ⟨wr.heap.size, 3, none⟩ = some (.slice da dn dc)) (first | exact C6.out | exact HKB.out _ (by repeat (first | exact Below.refl _ _ | exact B5.out | refine Below.drew ?_ | refine Below.alloc ?_ (Nat.le_refl _) _)) | go_keep) (first
            | (refine step_append_row _ (by rfl) (.tmp 43) (.tmp 45) (by rfl) W1.heap.size (some ⟨W1.heap.size, 0, none⟩) 0 [] dl da 0 dn dc (by first | rfl | simp [Act.eval]) (by first | rfl | simp [Act.eval]) rfl HAC.out.2.1 (Row.kept (C := (W1.alloc (.cells #[] 5)).heap.size) RA.out (by repeat (first | exact Below.refl _ _ | refine Below.drew ?_)) (Nat.le_refl _)) (HBY.out _ (by repeat (first | exact Below.refl _ _ | refine Below.drew ?_ | refine Below.alloc ?_ (Nat.le_refl _) _))) (by first | exact BA.out.size | simp) (by have := HSZ.out.2.2.1; have := HAC.out.2.1; simp only [List.length_nil]; omega) ?_; intro A5 c5 w5 r5 b5; have R5 := Lib.hid r5; have B5 : Hid (Below W1.heap.size W1 w5) := Lib.hid ((by repeat (first | exact Below.refl _ _ | refine Below.drew ?_ | refine Below.alloc ?_ (Nat.le_refl _) _) : Below W1.heap.size W1 _).trans b5); clear r5 b5)
            | (go_at_call 19; refine (HCA.out A5 c5 _ (Row.kept (C := w5.heap.size) R5.out (by repeat (first | exact Below.refl _ _ | refine Below.drew ?_)) (Nat.le_refl _)) (by repeat (first | exact B5.out | refine Below.drew ?_))).mono ?_; rintro e w6 ⟨rfl, he6, hc6⟩; have E6 := Lib.hid he6; have C6 := Lib.hid hc6; clear he6 hc6))
          go_wp2_with (go_at_call 19; refine (HDN.out _ ⟨⟨_, E6.out.1⟩, E6.out.2⟩).mono ?_; rintro e w7 ⟨rfl, hb7⟩; have B7 := Lib.hid hb7; clear hb7)
          go_ret
          exact ⟨rfl, B7.out⟩
        · simp only at h1 h3 h4
          subst h1
          have HE := Lib.hid (And.intro h3 h4)
          have hlt9 : 0 < nn - done := by rw [hc.out.left] at h2; omega
          clear h2 h3 h4
          go_upto_region 15 with fail
          have RA : Hid (Row (W1.alloc (.cells #[] 5)) W1.heap.size (some ⟨W1.heap.size, 0, none⟩) 0 []) := Lib.hid (step_append_new W1)
          have BA : Hid (Below W1.heap.size W1 (W1.alloc (.cells #[] 5))) := Lib.hid (below_new _ _)
          have HBY : Hid (∀ X, Below W1.heap.size W1 X → Bys X da dl) := Lib.hid (fun X hb5 => HAC.out.1.data.bys.kept (hb.out.trans ((HB1.out.trans (hb5.mono HB1.out.size)).mono hb.out.size)))
          have HKB : Hid (∀ X, Below W1.heap.size W1 X → X.cell? ⟨wr.heap.size, 1, none⟩ = some (.string s) ∧ X.cell? ⟨wr.heap.size, 3, none⟩ = some (.slice da dn dc)) := Lib.hid (fun X hb5 => ⟨(World.cell?_of_block (hb5.block _ (by have := HS1.out; show wr.heap.size < _; omega))).trans HC1.out.2.1, (World.cell?_of_block (hb5.block _ (by have := HS1.out; show wr.heap.size < _; omega))).trans HC1.out.2.2.2⟩)
          go_region_held3 (fun X => X.cell? ⟨wr.heap.size, 1, none⟩ = some (.string s) ∧ X.cell? ⟨wr.heap.size, 3, none⟩ = some (.slice da dn dc)) (first | exact C6.out | exact HKB.out _ (by repeat (first | exact Below.refl _ _ | exact B5.out | refine Below.drew ?_ | refine Below.alloc ?_ (Nat.le_refl _) _)) | go_keep) (first
            | (refine step_append_row _ (by rfl) (.tmp 43) (.tmp 45) (by rfl) W1.heap.size (some ⟨W1.heap.size, 0, none⟩) 0 [] dl da 0 dn dc (by first | rfl | simp [Act.eval]) (by first | rfl | simp [Act.eval]) rfl HAC.out.2.1 (Row.kept (C := (W1.alloc (.cells #[] 5)).heap.size) RA.out (by repeat (first | exact Below.refl _ _ | refine Below.drew ?_)) (Nat.le_refl _)) (HBY.out _ (by repeat (first | exact Below.refl _ _ | refine Below.drew ?_ | refine Below.alloc ?_ (Nat.le_refl _) _))) (by first | exact BA.out.size | simp) (by have := HSZ.out.2.2.1; have := HAC.out.2.1; simp only [List.length_nil]; omega) ?_; intro A5 c5 w5 r5 b5; have R5 := Lib.hid r5; have B5 : Hid (Below W1.heap.size W1 w5) := Lib.hid ((by repeat (first | exact Below.refl _ _ | refine Below.drew ?_ | refine Below.alloc ?_ (Nat.le_refl _) _) : Below W1.heap.size W1 _).trans b5); clear r5 b5)
            | (go_at_call 19; refine (HCA.out A5 c5 _ (Row.kept (C := w5.heap.size) R5.out (by repeat (first | exact Below.refl _ _ | refine Below.drew ?_)) (Nat.le_refl _)) (by repeat (first | exact B5.out | refine Below.drew ?_))).mono ?_; rintro e w6 ⟨rfl, he6, hc6⟩; have E6 := Lib.hid he6; have C6 := Lib.hid hc6; clear he6 hc6))
          go_wp2_with fail
          go_roundw
          case rel =>
            obtain ⟨⟨p9, e1, e2, -⟩, e4⟩ := E6.out
            exact ⟨k + 1, done + 1, p9, by omega, by omega, by omega, by go_num, by go_num, Lib.hid e1, Lib.hid (by rw [e2, HE.out.1, show nn - (done + 1) = nn - done - 1 by omega]; exact (hc.out.next HE.out.2 hlt9).more (by omega) (by rw [HSA.out]; have := HAC.out.2.1; omega)), Lib.hid e4⟩
          case measure => simp [intOf]; omega
      · skip
        by_cases n1 : r6 = 1
        · subst n1
          obtain ⟨q, hqq⟩ : ∃ q, p.vm.sync s = q := ⟨_, rfl⟩
          have HT : Hid (Trans p.vm q 0) := Lib.hid (hqq ▸ trans_does hc.out.down (sync_le s _ 0 _))
          obtain ⟨q1, q2⟩ := q
          have HCA : Hid (Calls Try.prog 21 #[.pointer (some ⟨g, 0, none⟩), .string s] W1 fun e w' => e = .returned (.int .i64 q2) ∧ (Rest W1 w1.heap.size g p q1 w' ∧ Below w.heap.size w w')) := Lib.hid (by
            refine (sync_vm w1.heap.size g p p.vm q1 q2 s W1 HP1.out rfl HSZ.out.1 hqq).mono ?_
            rintro e w' ⟨he, hr⟩
            exact ⟨he, hr, (hb.out.trans (HB1.out.mono hb.out.size)).trans ((Rest.below HP1.out hr).mono HLO.out)⟩)
          clear hqq
          rcases HT.out with ⟨h1, h2, h3⟩ | ⟨h1, h2, h3⟩ | ⟨h1, h2, fs', h3, h4⟩
          · simp only at h1 h2 h3
            have d0 : (q2 == 0) = false := by simpa using h1
            have d20 : (q2 == 20) = false := by simpa using h2
            have HE := Lib.hid h3
            clear h1 h2 h3
            go_wp2_with ((go_at_call 21; refine HCA.out.mono ?_; rintro e w6 ⟨rfl, he6⟩; have E6 := Lib.hid he6; clear he6))
            go_roundw
            case rel =>
              obtain ⟨⟨p9, e1, e2, -⟩, e4⟩ := E6.out
              exact ⟨k + 1, done, p9, by omega, hd0, hd1, by go_num, rfl, Lib.hid e1, Lib.hid (by rw [e2, HE.out]; exact hc.out.more (by omega) (by rw [HSA.out]; omega)), Lib.hid e4⟩
            case measure => simp [intOf]; omega
          · simp only at h1 h2 h3
            subst h1
            have hdn2 : (done == nn) = true := by rw [hc.out.left] at h2; rw [beq_iff_eq]; omega
            have HE := Lib.hid h3
            have HDN : Hid (∀ X, (Rest W1 w1.heap.size g p q1 X ∧ Below w.heap.size w X) → Calls Try.prog 19 #[.pointer (some ⟨g, 0, none⟩), .string ⟨#[97]⟩, .slice none 0 0] X fun e w' => e = .returned (.int .i64 20) ∧ Below w.heap.size w w') := Lib.hid (fun X hX => append_down (HFIT.out 0 (by omega)) (by have := HSZ.out.2.2.2; omega) HE.out hX.1 hX.2 HLO.out)
            clear h2 h3
            go_wp2_with (first
              | (go_at_call 21; refine HCA.out.mono ?_; rintro e w6 ⟨rfl, he6⟩; have E6 := Lib.hid he6; clear he6)
              | (go_at_call 19; refine (HDN.out _ E6.out).mono ?_; rintro e w7 ⟨rfl, hb7⟩; have B7 := Lib.hid hb7; clear hb7))
            go_ret
            exact ⟨rfl, B7.out⟩
          · simp only at h1 h3 h4
            subst h1
            have HE := Lib.hid (And.intro h3 h4)
            have hlt9 : 0 < nn - done := by rw [hc.out.left] at h2; omega
            clear h2 h3 h4
            go_wp2_with ((go_at_call 21; refine HCA.out.mono ?_; rintro e w6 ⟨rfl, he6⟩; have E6 := Lib.hid he6; clear he6))
            go_roundw
            case rel =>
              obtain ⟨⟨p9, e1, e2, -⟩, e4⟩ := E6.out
              exact ⟨k + 1, done + 1, p9, by omega, by omega, by omega, by go_num, by go_num, Lib.hid e1, Lib.hid (by rw [e2, HE.out.1, show nn - (done + 1) = nn - done - 1 by omega]; exact (hc.out.next HE.out.2 hlt9).more (by omega) (by rw [HSA.out]; omega)), Lib.hid e4⟩
            case measure => simp [intOf]; omega
        · skip
          by_cases n2 : r6 = 2
          · subst n2
            obtain ⟨q, hqq⟩ : ∃ q, p.vm.rename s t = q := ⟨_, rfl⟩
            have HT : Hid (Trans p.vm q 0) := Lib.hid (hqq ▸ trans_does hc.out.down (by split; exact Le7.refl _ _ _; exact ren_le s t _ 0 _ HAC.out.1.ts))
            obtain ⟨q1, q2⟩ := q
            have HCA : Hid (Calls Try.prog 22 #[.pointer (some ⟨g, 0, none⟩), .string s, .string t] W1 fun e w' => e = .returned (.int .i64 q2) ∧ (Rest W1 w1.heap.size g p q1 w' ∧ Below w.heap.size w w')) := Lib.hid (by
              refine (rename_vm w1.heap.size g p p.vm q1 q2 s t W1 HP1.out rfl HSZ.out.1 HSZ.out.2.1 (HFIT.out 0 (by omega)).few hqq).mono ?_
              rintro e w' ⟨he, hr⟩
              exact ⟨he, hr, (hb.out.trans (HB1.out.mono hb.out.size)).trans ((Rest.below HP1.out hr).mono HLO.out)⟩)
            clear hqq
            rcases HT.out with ⟨h1, h2, h3⟩ | ⟨h1, h2, h3⟩ | ⟨h1, h2, fs', h3, h4⟩
            · simp only at h1 h2 h3
              have d0 : (q2 == 0) = false := by simpa using h1
              have d20 : (q2 == 20) = false := by simpa using h2
              have HE := Lib.hid h3
              clear h1 h2 h3
              go_wp2_with ((go_at_call 22; refine HCA.out.mono ?_; rintro e w6 ⟨rfl, he6⟩; have E6 := Lib.hid he6; clear he6))
              go_roundw
              case rel =>
                obtain ⟨⟨p9, e1, e2, -⟩, e4⟩ := E6.out
                exact ⟨k + 1, done, p9, by omega, hd0, hd1, by go_num, rfl, Lib.hid e1, Lib.hid (by rw [e2, HE.out]; exact hc.out.more (by omega) (by rw [HSA.out]; omega)), Lib.hid e4⟩
              case measure => simp [intOf]; omega
            · simp only at h1 h2 h3
              subst h1
              have hdn2 : (done == nn) = true := by rw [hc.out.left] at h2; rw [beq_iff_eq]; omega
              have HE := Lib.hid h3
              have HDN : Hid (∀ X, (Rest W1 w1.heap.size g p q1 X ∧ Below w.heap.size w X) → Calls Try.prog 19 #[.pointer (some ⟨g, 0, none⟩), .string ⟨#[97]⟩, .slice none 0 0] X fun e w' => e = .returned (.int .i64 20) ∧ Below w.heap.size w w') := Lib.hid (fun X hX => append_down (HFIT.out 0 (by omega)) (by have := HSZ.out.2.2.2; omega) HE.out hX.1 hX.2 HLO.out)
              clear h2 h3
              go_wp2_with (first
                | (go_at_call 22; refine HCA.out.mono ?_; rintro e w6 ⟨rfl, he6⟩; have E6 := Lib.hid he6; clear he6)
                | (go_at_call 19; refine (HDN.out _ E6.out).mono ?_; rintro e w7 ⟨rfl, hb7⟩; have B7 := Lib.hid hb7; clear hb7))
              go_ret
              exact ⟨rfl, B7.out⟩
            · simp only at h1 h3 h4
              subst h1
              have HE := Lib.hid (And.intro h3 h4)
              have hlt9 : 0 < nn - done := by rw [hc.out.left] at h2; omega
              clear h2 h3 h4
              go_wp2_with ((go_at_call 22; refine HCA.out.mono ?_; rintro e w6 ⟨rfl, he6⟩; have E6 := Lib.hid he6; clear he6))
              go_roundw
              case rel =>
                obtain ⟨⟨p9, e1, e2, -⟩, e4⟩ := E6.out
                exact ⟨k + 1, done + 1, p9, by omega, by omega, by omega, by go_num, by go_num, Lib.hid e1, Lib.hid (by rw [e2, HE.out.1, show nn - (done + 1) = nn - done - 1 by omega]; exact (hc.out.next HE.out.2 hlt9).more (by omega) (by rw [HSA.out]; omega)), Lib.hid e4⟩
              case measure => simp [intOf]; omega
          · skip
            by_cases n3 : r6 = 3
            · subst n3
              obtain ⟨q, hqq⟩ : ∃ q, p.vm.delete s = q := ⟨_, rfl⟩
              have HT : Hid (Trans p.vm q 0) := Lib.hid (hqq ▸ trans_does hc.out.down (erase_le _ _ 0 _))
              obtain ⟨q1, q2⟩ := q
              have HCA : Hid (Calls Try.prog 23 #[.pointer (some ⟨g, 0, none⟩), .string s] W1 fun e w' => e = .returned (.int .i64 q2) ∧ (Rest W1 w1.heap.size g p q1 w' ∧ Below w.heap.size w w')) := Lib.hid (by
                refine (delete_vm w1.heap.size g p p.vm q1 q2 s W1 HP1.out rfl HSZ.out.1 hqq).mono ?_
                rintro e w' ⟨he, hr⟩
                exact ⟨he, hr, (hb.out.trans (HB1.out.mono hb.out.size)).trans ((Rest.below HP1.out hr).mono HLO.out)⟩)
              clear hqq
              rcases HT.out with ⟨h1, h2, h3⟩ | ⟨h1, h2, h3⟩ | ⟨h1, h2, fs', h3, h4⟩
              · simp only at h1 h2 h3
                have d0 : (q2 == 0) = false := by simpa using h1
                have d20 : (q2 == 20) = false := by simpa using h2
                have HE := Lib.hid h3
                clear h1 h2 h3
                go_wp2_with ((go_at_call 23; refine HCA.out.mono ?_; rintro e w6 ⟨rfl, he6⟩; have E6 := Lib.hid he6; clear he6))
                go_roundw
                case rel =>
                  obtain ⟨⟨p9, e1, e2, -⟩, e4⟩ := E6.out
                  exact ⟨k + 1, done, p9, by omega, hd0, hd1, by go_num, rfl, Lib.hid e1, Lib.hid (by rw [e2, HE.out]; exact hc.out.more (by omega) (by rw [HSA.out]; omega)), Lib.hid e4⟩
                case measure => simp [intOf]; omega
              · simp only at h1 h2 h3
                subst h1
                have hdn2 : (done == nn) = true := by rw [hc.out.left] at h2; rw [beq_iff_eq]; omega
                have HE := Lib.hid h3
                have HDN : Hid (∀ X, (Rest W1 w1.heap.size g p q1 X ∧ Below w.heap.size w X) → Calls Try.prog 19 #[.pointer (some ⟨g, 0, none⟩), .string ⟨#[97]⟩, .slice none 0 0] X fun e w' => e = .returned (.int .i64 20) ∧ Below w.heap.size w w') := Lib.hid (fun X hX => append_down (HFIT.out 0 (by omega)) (by have := HSZ.out.2.2.2; omega) HE.out hX.1 hX.2 HLO.out)
                clear h2 h3
                go_wp2_with (first
                  | (go_at_call 23; refine HCA.out.mono ?_; rintro e w6 ⟨rfl, he6⟩; have E6 := Lib.hid he6; clear he6)
                  | (go_at_call 19; refine (HDN.out _ E6.out).mono ?_; rintro e w7 ⟨rfl, hb7⟩; have B7 := Lib.hid hb7; clear hb7))
                go_ret
                exact ⟨rfl, B7.out⟩
              · simp only at h1 h3 h4
                subst h1
                have HE := Lib.hid (And.intro h3 h4)
                have hlt9 : 0 < nn - done := by rw [hc.out.left] at h2; omega
                clear h2 h3 h4
                go_wp2_with ((go_at_call 23; refine HCA.out.mono ?_; rintro e w6 ⟨rfl, he6⟩; have E6 := Lib.hid he6; clear he6))
                go_roundw
                case rel =>
                  obtain ⟨⟨p9, e1, e2, -⟩, e4⟩ := E6.out
                  exact ⟨k + 1, done + 1, p9, by omega, by omega, by omega, by go_num, by go_num, Lib.hid e1, Lib.hid (by rw [e2, HE.out.1, show nn - (done + 1) = nn - done - 1 by omega]; exact (hc.out.next HE.out.2 hlt9).more (by omega) (by rw [HSA.out]; omega)), Lib.hid e4⟩
                case measure => simp [intOf]; omega
            · skip
              by_cases n4 : r6 = 4
              · subst n4
                have HC6 := Lib.hid (read_not (s := s) hc.out.down)
                obtain ⟨⟨rb, rc⟩, hrr⟩ : ∃ r, p.vm.read s = r := ⟨_, rfl⟩
                have HRD : Hid (Calls Try.prog 24 #[.pointer (some ⟨g, 0, none⟩), .string s] W1 fun e w' => ∃ A9 n9 c9, e = .returned (.tuple #[.slice A9 n9 c9, .int .i64 rc]) ∧ Below W1.heap.size W1 w') := Lib.hid (by
                  refine (read_vm w1.heap.size g p p.vm s W1 _ HP1.out rfl HSZ.out.1 (HFIT.out 0 (by omega)) hrr).mono ?_
                  rintro e w' ⟨A9, c9, rfl, -, b9⟩
                  exact ⟨A9, _, c9, rfl, b9⟩)
                rw [hrr] at HC6
                have hrc := HC6.out
                simp only at hrc
                clear hrr HC6
                have d20 : (rc == 20) = false := by simpa using hrc
                by_cases hrc0 : rc = 0
                · subst hrc0
                  go_wp2_with (go_at_call 24; refine HRD.out.mono ?_; rintro e w6 ⟨A9, n9, c9, rfl, b9⟩; have B9 := Lib.hid b9; clear b9)
                  go_roundw
                  case rel => exact ⟨k + 1, done, p, by omega, hd0, hd1, by go_num, rfl, Lib.hid (HP1.out.kept B9.out), Lib.hid (hc.out.more (by omega) (by rw [HSA.out]; omega)), Lib.hid (hb.out.trans ((HB1.out.trans (B9.out.mono HB1.out.size)).mono hb.out.size))⟩
                  case measure => simp [intOf]; omega
                · have d0 : (rc == 0) = false := by simpa using hrc0
                  clear hrc0 hrc
                  go_wp2_with (go_at_call 24; refine HRD.out.mono ?_; rintro e w6 ⟨A9, n9, c9, rfl, b9⟩; have B9 := Lib.hid b9; clear b9)
                  go_roundw
                  case rel => exact ⟨k + 1, done, p, by omega, hd0, hd1, by go_num, rfl, Lib.hid (HP1.out.kept B9.out), Lib.hid (hc.out.more (by omega) (by rw [HSA.out]; omega)), Lib.hid (hb.out.trans ((HB1.out.trans (B9.out.mono HB1.out.size)).mono hb.out.size))⟩
                  case measure => simp [intOf]; omega
              · skip
                have HLS : Hid (Calls Try.prog 25 #[.pointer (some ⟨g, 0, none⟩)] W1 fun e w' => ∃ A9 n9 c9, e = .returned (.tuple #[.slice A9 n9 c9, .int .i64 0]) ∧ Below W1.heap.size W1 w') := Lib.hid (by
                  refine (list_vm w1.heap.size g p p.vm W1 (p.vm.fs.map Prod.fst, 0) HP1.out rfl (HFIT.out 0 (by omega)) (by unfold Vm.list; rw [hc.out.down]; rfl)).mono ?_
                  rintro e w' ⟨A9, c9, rfl, -, b9⟩
                  exact ⟨A9, _, c9, rfl, b9⟩)
                have d0 : (r6 == 0) = false := by simpa using n0
                have d1 : (r6 == 1) = false := by simpa using n1
                have d2 : (r6 == 2) = false := by simpa using n2
                have d3 : (r6 == 3) = false := by simpa using n3
                have d4 : (r6 == 4) = false := by simpa using n4
                clear n0 n1 n2 n3 n4
                go_wp2_with (go_at_call 25; refine HLS.out.mono ?_; rintro e w6 ⟨A9, n9, c9, rfl, b9⟩; have B9 := Lib.hid b9; clear b9)
                go_roundw
                case rel => exact ⟨k + 1, done, p, by omega, hd0, hd1, by go_num, rfl, Lib.hid (HP1.out.kept B9.out), Lib.hid (hc.out.more (by omega) (by rw [HSA.out]; omega)), Lib.hid (hb.out.trans ((HB1.out.trans (B9.out.mono HB1.out.size)).mono hb.out.size))⟩
                case measure => simp [intOf]; omega
    · obtain rfl : k = ln := by omega
      have hle : decide (done ≤ nn) = true := by simpa using hd1
      go_wp2_with fail
      go_ret
      exact ⟨rfl, hb.out⟩

end Go.Proofs.Ytjacjafpeajhaaa
