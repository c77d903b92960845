/-
  Walks: what is asked ahead of any file; a change counted; a file found, and for a change.
-/
import Derived.Test.YtjacjafpeajhaaaPgC
namespace Go.Proofs.Ytjacjafpeajhaaa
open Go.RowKit
open Go.Maps

/-- What is asked ahead of any file. -/
def readyE (down : Bool) (names : List ByteArray) : Int := if down then 20 else if names.all okName then 0 else 23
theorem all_step {names : List ByteArray} {k : Nat} {s : ByteArray} (hs : names[k]? = some s) (h : okName s = true) (hb : ∀ (j : Nat) (t : ByteArray), j < k → names[j]? = some t → okName t = true) : ∀ (j : Nat) (t : ByteArray), j < k + 1 → names[j]? = some t → okName t = true := fun j t hj ht => by
  by_cases e : j = k
  · subst e
    rw [hs] at ht
    injection ht with ht
    rw [← ht]
    exact h
  · exact hb j t (by omega) ht
theorem names_all {names : List ByteArray} {n : Nat} (hn : names.length = n) (hb : ∀ (j : Nat) (t : ByteArray), j < n → names[j]? = some t → okName t = true) : names.all okName = true := by
  rw [List.all_eq_true]
  intro x hx
  obtain ⟨j, hj, e⟩ := List.mem_iff_getElem.1 hx
  exact hb j x (by omega) (by rw [List.getElem?_eq_getElem hj, e])
theorem names_not {names : List ByteArray} {k : Nat} {s : ByteArray} (hs : names[k]? = some s) (h : okName s = false) : names.all okName = false := by
  rw [Bool.eq_false_iff]
  intro e
  have := List.all_eq_true.1 e s (List.mem_of_getElem? hs)
  rw [h] at this
  cases this

set_option maxHeartbeats 2000000 in
theorem ready_nil (A : Option Addr) (n c : Nat) (w : World) :
    Calls Try.prog 47 #[.pointer none, .slice A n c] w fun e w' => e = .returned (.int .i64 1) ∧ w = w' := by
  go_enter Try.func47, Try.ntmps47
  go_wp2_with fail
  go_ret
  exact ⟨rfl, rfl⟩

set_option maxHeartbeats 2000000 in
theorem ready_any (g : Nat) (p : Pk) (A : Option Addr) (names : List ByteArray) (n c : Nat) (w : World) (hp : PkAt w g p) (hn : names.length = n) (h : Lies w A (names.map Value.string)) (hl : n ≤ 2) (hs : ∀ s ∈ names, s.size ≤ 281474976710656) :
    Calls Try.prog 47 #[.pointer (some ⟨g, 0, none⟩), .slice A n c] w fun e w' => e = .returned (.int .i64 (readyE p.down names)) ∧ w = w' := by
  obtain ⟨r, hr⟩ : ∃ r, readyE p.down names = r := ⟨_, rfl⟩
  rw [hr]
  have HR := Lib.hid hr
  obtain ⟨-, -, -, -, -, c5⟩ := hp.cell
  have HN := Lib.hid hn
  have HS := Lib.hid hs
  have HP := Lib.hid h
  clear hr hp hn hs h
  obtain ⟨b, l, size, room, left, K, keep, kc, down⟩ := p
  simp only at c5 HR
  cases down
  · go_enter Try.func47, Try.ntmps47
    go_wp2_with fail
    go_loop [15] (fun t15 => ∃ k : Nat, k ≤ n ∧ t15 = .int .i64 k ∧ Hid (∀ (j : Nat) (t : ByteArray), j < k → names[j]? = some t → okName t = true)) (fun t15 => n - (intOf t15).toNat)
    case atStart => exact ⟨0, by omega, rfl, Lib.hid (fun j t hj => by omega)⟩
    case round =>
      obtain ⟨k, hk, rfl, hf⟩ := hrel
      by_cases hlt : k < n
      · have hq := List.getElem?_eq_getElem (l := names) (i := k) (by have := HN.out; omega)
        generalize names[k]'(by have := HN.out; omega) = s at hq
        obtain ⟨ad, hA, hc⟩ := HP.out.resolve_left (fun e => by have := HN.out; have h2 := congrArg List.length e; rw [List.length_map, List.length_nil] at h2; omega)
        subst hA
        have c0 := hc k (.string s) (by rw [List.getElem?_map, hq]; rfl)
        have HQ := Lib.hid hq
        have HC := Lib.hid (isName_any s w (HS.out s (List.mem_of_getElem? hq)))
        clear hc hq
        obtain ⟨v, hv⟩ : ∃ v, okName s = v := ⟨_, rfl⟩
        rw [hv] at HC
        have HV := Lib.hid hv
        clear hv
        cases v
        · have HW : Hid (r = 23) := Lib.hid (by rw [← HR.out]; unfold readyE; rw [names_not HQ.out HV.out]; rfl)
          go_wp2_with (go_at_call 32; refine HC.out.mono ?_; rintro e w1 ⟨rfl, hw⟩; subst hw)
          go_ret
          rw [HW.out]
          exact ⟨rfl, rfl⟩
        · go_wp2_with (go_at_call 32; refine HC.out.mono ?_; rintro e w1 ⟨rfl, hw⟩; subst hw)
          go_round
          case rel => exact ⟨k + 1, by omega, by go_num, Lib.hid (all_step HQ.out HV.out hf.out)⟩
          case measure => simp [intOf]; omega
      · obtain rfl : k = n := by omega
        have HW : Hid (r = 0) := Lib.hid (by rw [← HR.out]; unfold readyE; rw [names_all HN.out hf.out]; rfl)
        go_wp2_with fail
        go_ret
        rw [HW.out]
        exact ⟨rfl, rfl⟩
  · have HW : Hid (r = 20) := Lib.hid (by rw [← HR.out]; rfl)
    go_enter Try.func47, Try.ntmps47
    go_wp2_with fail
    go_ret
    rw [HW.out]
    exact ⟨rfl, rfl⟩

/-- A change counted, or the crash. -/
def stepP (p : Pk) : Pk × Int := if p.left = 0 then ({ p with down := true }, 20) else if 0 < p.left then ({ p with left := p.left - 1 }, 0) else (p, 0)
/-- The disk's own block has turned. -/
def TurnsP (w : World) (g : Nat) (p : Pk) (r : Int) (e : Ending) (w' : World) : Prop := e = .returned (.int .i64 r) ∧ PkAt w' g p ∧ BelowX w.heap.size g w w'

set_option maxHeartbeats 2000000 in
theorem step_any (g : Nat) (p : Pk) (w : World) (hp : PkAt w g p) (hl : -9223372036854775808 ≤ p.left ∧ p.left ≤ 9223372036854775807) :
    Calls Try.prog 48 #[.pointer (some ⟨g, 0, none⟩)] w (TurnsP w g (stepP p).1 (stepP p).2) := by
  obtain ⟨q, hq⟩ : ∃ q, stepP p = q := ⟨_, rfl⟩
  rw [hq]
  have HQ := Lib.hid hq
  obtain ⟨-, -, -, c3, -, c5⟩ := hp.cell
  have f3 := hp.frozen 3
  have f5 := hp.frozen 5
  have HP := Lib.hid hp
  clear hq hp
  obtain ⟨b, l, size, room, left, K, keep, kc, down⟩ := p
  simp only at c3 c5 hl
  obtain ⟨hl0, hl1⟩ := hl
  by_cases h0 : left = 0
  · subst h0
    have HW : Hid (q = (⟨b, l, size, room, 0, K, keep, kc, true⟩, 20)) := Lib.hid (by rw [← HQ.out]; rfl)
    go_enter Try.func48, Try.ntmps48
    go_wp2_with fail
    go_ret
    rw [HW.out]
    exact ⟨rfl, PkAt.set (p := ⟨b, l, size, room, 0, K, keep, kc, down⟩) HP.out 5 (.bool true) rfl, belowx_set _ _ g 5 (.bool true)⟩
  · have d0 : (left == 0) = false := by simpa using h0
    by_cases h1 : 0 < left
    · have HW : Hid (q = (⟨b, l, size, room, left - 1, K, keep, kc, down⟩, 0)) := Lib.hid (by rw [← HQ.out]; simp [stepP, h0, h1])
      clear h0
      go_enter Try.func48, Try.ntmps48
      go_wp2_with fail
      go_ret
      rw [HW.out]
      exact ⟨rfl, PkAt.set (p := ⟨b, l, size, room, left, K, keep, kc, down⟩) HP.out 3 (.int .i64 (left - 1)) rfl, belowx_set _ _ g 3 (.int .i64 (left - 1))⟩
    · have HW : Hid (q = (⟨b, l, size, room, left, K, keep, kc, down⟩, 0)) := Lib.hid (by rw [← HQ.out]; simp [stepP, h0, h1])
      have d1 : decide (0 < left) = false := by simpa using h1
      clear h0
      go_enter Try.func48, Try.ntmps48
      go_wp2_with fail
      go_ret
      rw [HW.out]
      exact ⟨rfl, HP.out, BelowX.refl _ _ _⟩

/-- What hinders it, of one file. -/
def findE (p : Pk) (s : ByteArray) : Int := if readyE p.down [s] ≠ 0 then readyE p.down [s] else if (findP s p.l).isNone then 22 else 0
def findV (p : Pk) (s : ByteArray) : Value := if readyE p.down [s] ≠ 0 then .pointer none else ptrOf (findP s p.l)
theorem ret_two {a : Value} {x y : Int} (h : x = y) : Ending.returned (.tuple #[a, .int .i64 x]) = .returned (.tuple #[a, .int .i64 y]) := by rw [h]
theorem pk_block {w w' : World} {g : Nat} {p : Pk} (h : PkAt w g p) (e : w'.heap[g]? = w.heap[g]?) : PkAt w' g p := by
  unfold PkAt at h ⊢
  rw [e, h]

set_option maxHeartbeats 2000000 in
theorem find_any (B g : Nat) (p : Pk) (s : ByteArray) (w : World) (h : PSt w B g p) (hs : s.size ≤ 281474976710656) (hm : s.size ≤ maxLen) :
    Calls Try.prog 51 #[.pointer (some ⟨g, 0, none⟩), .string s] w fun e w' => e = .returned (.tuple #[findV p s, .int .i64 (findE p s)]) ∧ Below w.heap.size w w' := by
  have H1 := Lib.hid (h.kept (below_new w (.cells #[.string s] 9)))
  have HR := Lib.hid (ready_any g p (some ⟨w.heap.size, 0, none⟩) [s] 1 1 (w.alloc (.cells #[.string s] 9)) H1.out.at_ rfl (lit_lies w [.string s] _ rfl _) (by omega) (fun t ht => by rw [List.mem_singleton] at ht; subst ht; exact hs))
  have c0 := H1.out.at_.cell.1
  have HL := look_run H1.out.inn.map s hm
  obtain ⟨r, hr⟩ : ∃ r, readyE p.down [s] = r := ⟨_, rfl⟩
  rw [hr] at HR
  obtain ⟨x, hx⟩ : ∃ x, findE p s = x := ⟨_, rfl⟩
  obtain ⟨v, hv⟩ : ∃ v, findV p s = v := ⟨_, rfl⟩
  rw [hx, hv]
  have HX := Lib.hid (And.intro hr (And.intro hx hv))
  have HB := Lib.hid (below_new w (.cells #[.string s] 9))
  clear h hr hx hv
  by_cases h0 : r = 0
  · subst h0
    obtain ⟨o, ho⟩ : ∃ o, findP s p.l = o := ⟨_, rfl⟩
    rw [ho] at HL
    cases o with
    | none =>
      have HW : Hid (x = 22 ∧ v = .pointer none) := Lib.hid (by rw [← HX.out.2.1, ← HX.out.2.2]; unfold findE findV; rw [HX.out.1, ho]; exact ⟨rfl, rfl⟩)
      clear ho
      unfold ptrOf at HL
      go_enter Try.func51, Try.ntmps51
      go_wp2_with (go_at_call 47; refine HR.out.mono ?_; rintro e w1 ⟨rfl, hw⟩; subst hw)
      go_ret2
      rw [HW.out.1, HW.out.2]
      exact ⟨rfl, HB.out⟩
    | some q =>
      have HW : Hid (x = 0 ∧ v = .pointer (some ⟨q.h, 0, none⟩)) := Lib.hid (by rw [← HX.out.2.1, ← HX.out.2.2]; unfold findE findV; rw [HX.out.1, ho]; exact ⟨rfl, rfl⟩)
      clear ho
      unfold ptrOf Pf.at_ at HL
      go_enter Try.func51, Try.ntmps51
      go_wp2_with (go_at_call 47; refine HR.out.mono ?_; rintro e w1 ⟨rfl, hw⟩; subst hw)
      go_ret2
      rw [HW.out.1, HW.out.2]
      exact ⟨rfl, HB.out⟩
  · have HW : Hid (x = r ∧ v = .pointer none) := Lib.hid (by rw [← HX.out.2.1, ← HX.out.2.2]; unfold findE findV; rw [HX.out.1, if_pos h0, if_pos h0]; exact ⟨rfl, rfl⟩)
    have d0 : (r != 0) = true := by simpa using h0
    clear h0
    go_enter Try.func51, Try.ntmps51
    go_wp2_with (go_at_call 47; refine HR.out.mono ?_; rintro e w1 ⟨rfl, hw⟩; subst hw)
    go_ret2
    rw [HW.out.1, HW.out.2]
    exact ⟨rfl, HB.out⟩

/-- A file for a change that is then done, or what hinders it. -/
def changeP (p : Pk) (s : ByteArray) : Pk × Value × Int := if findE p s ≠ 0 then (p, .pointer none, findE p s) else if (stepP p).2 ≠ 0 then ((stepP p).1, .pointer none, (stepP p).2) else ((stepP p).1, findV p s, 0)
def TurnsV (w : World) (g : Nat) (r : Pk × Value × Int) (e : Ending) (w' : World) : Prop := e = .returned (.tuple #[r.2.1, .int .i64 r.2.2]) ∧ PkAt w' g r.1 ∧ BelowX w.heap.size g w w'

set_option maxHeartbeats 2000000 in
theorem change_any (B g : Nat) (p : Pk) (s : ByteArray) (w : World) (h : PSt w B g p) (hs : s.size ≤ 281474976710656) (hm : s.size ≤ maxLen) :
    Calls Try.prog 49 #[.pointer (some ⟨g, 0, none⟩), .string s] w (TurnsV w g (changeP p s)) := by
  have HF := Lib.hid (find_any B g p s w h hs hm)
  have HS := Lib.hid (fun (W : World) (hb : Below w.heap.size w W) => step_any g p W (h.kept hb).at_ h.left)
  have HK := Lib.hid (fun (W : World) (hb : Below w.heap.size w W) => (h.kept hb).at_)
  obtain ⟨r, hr⟩ : ∃ r, changeP p s = r := ⟨_, rfl⟩
  rw [hr]
  obtain ⟨x, hx⟩ : ∃ x, findE p s = x := ⟨_, rfl⟩
  obtain ⟨v, hv⟩ : ∃ v, findV p s = v := ⟨_, rfl⟩
  obtain ⟨y, hy⟩ : ∃ y, stepP p = y := ⟨_, rfl⟩
  rw [hx, hv] at HF
  rw [hy] at HS
  obtain ⟨y1, y2⟩ := y
  simp only at HS
  have HR := Lib.hid (And.intro hr (And.intro hx (And.intro hv hy)))
  clear h hr hx hv hy
  by_cases h0 : x = 0
  · subst h0
    by_cases h1 : y2 = 0
    · subst h1
      have HW : Hid (r = (y1, v, 0)) := Lib.hid (by rw [← HR.out.1]; unfold changeP; rw [HR.out.2.1, HR.out.2.2.2, HR.out.2.2.1]; rfl)
      go_enter Try.func49, Try.ntmps49
      go_wp2_with (first | (go_at_call 51; refine HF.out.mono ?_; rintro e w1 ⟨rfl, hb⟩; have B1 := Lib.hid hb; clear hb) | (go_at_call 48; refine (HS.out _ B1.out).mono ?_; rintro e w2 ⟨rfl, ha, hb⟩; have B2 := Lib.hid (And.intro ha hb); clear ha hb))
      go_ret2
      rw [HW.out]
      exact ⟨rfl, B2.out.1, (below_x B1.out).trans (B2.out.2.mono B1.out.size)⟩
    · have HW : Hid (r = (y1, .pointer none, y2)) := Lib.hid (by rw [← HR.out.1]; unfold changeP; rw [HR.out.2.1, HR.out.2.2.2, HR.out.2.2.1, if_neg (by simp), if_pos h1])
      have d1 : (y2 != 0) = true := by simpa using h1
      clear h1
      go_enter Try.func49, Try.ntmps49
      go_wp2_with (first | (go_at_call 51; refine HF.out.mono ?_; rintro e w1 ⟨rfl, hb⟩; have B1 := Lib.hid hb; clear hb) | (go_at_call 48; refine (HS.out _ B1.out).mono ?_; rintro e w2 ⟨rfl, ha, hb⟩; have B2 := Lib.hid (And.intro ha hb); clear ha hb))
      go_ret2
      rw [HW.out]
      exact ⟨rfl, B2.out.1, (below_x B1.out).trans (B2.out.2.mono B1.out.size)⟩
  · have HW : Hid (r = (p, .pointer none, x)) := Lib.hid (by rw [← HR.out.1]; unfold changeP; rw [HR.out.2.1, if_pos h0])
    have d0 : (x != 0) = true := by simpa using h0
    clear h0
    go_enter Try.func49, Try.ntmps49
    go_wp2_with (go_at_call 51; refine HF.out.mono ?_; rintro e w1 ⟨rfl, hb⟩; have B1 := Lib.hid hb; clear hb)
    go_ret2
    rw [HW.out]
    exact ⟨rfl, HK.out _ B1.out, below_x B1.out⟩

end Go.Proofs.Ytjacjafpeajhaaa
