/-
  Walks: an append that crashes; what a new beginning leaves.
-/
import Derived.Test.YtjacjafpeajhaaaPgT
namespace Go.Proofs.Ytjacjafpeajhaaa
open Go.RowKit
open Go.Maps

set_option maxRecDepth 100000 in
set_option maxHeartbeats 4000000 in
theorem append_crash (B g : Nat) (p : Pk) (s : ByteArray) (bA : Option Addr) (m bc : Nat) (w : World) (h : PSt w B g p) (hs : s.size ≤ 140737488355328) (hr : readyE p.down [s] = 0) (hroom : p.room < 0) (hleft : p.left = 0) :
    Calls Try.prog 19 #[.pointer (some ⟨g, 0, none⟩), .string s, .slice bA m bc] w fun e w' => e = .returned (.int .i64 20) ∧ Rest w B g p { p.vm with down := true } w' := by
  have H := Lib.hid h
  obtain ⟨w1, hw1⟩ : ∃ w1, w.alloc (.cells #[.string s] 9) = w1 := ⟨_, rfl⟩
  have B1 : Hid (Below w.heap.size w w1) := Lib.hid (hw1 ▸ below_new _ _)
  have H1 := Lib.hid (H.out.kept B1.out)
  have HR := Lib.hid (ready_any g p (some ⟨w.heap.size, 0, none⟩) [s] 1 1 w1 H1.out.at_ rfl (by rw [← hw1]; exact lit_lies w [.string s] _ rfl _) (by omega) (fun t ht => by rw [List.mem_singleton] at ht; subst ht; omega))
  rw [hr] at HR
  obtain ⟨-, -, c2, -⟩ := H1.out.at_.cell
  obtain ⟨room, hro⟩ : ∃ room, p.room = room := ⟨_, rfl⟩
  rw [hro] at c2 hroom
  have e0 : decide (0 ≤ room) = false := by simpa using hroom
  have e1 : (stepP p).1 = { p with down := true } ∧ (stepP p).2 = 20 := by
    unfold stepP
    rw [if_pos hleft]
    exact ⟨rfl, rfl⟩
  have HE := Lib.hid (fun (W X : World) (hW : PSt W B g p) (hk : PkAt X g (stepP p).1) (hb : BelowX W.heap.size g W X) => hW.step hk hb)
  have HST := Lib.hid (fun (W : World) (hW : PSt W B g p) => step_any g p W hW.at_ hW.left)
  rw [e1.1] at HE
  rw [e1.1, e1.2] at HST
  clear h hr hleft hro hroom e1
  go_enter Try.func19, Try.ntmps19
  go_upto_region 4 with (go_at_call 47; refine HR.out.mono ?_; rintro e w2 ⟨rfl, hw⟩; subst hw)
  go_quiet (fail)
  obtain ⟨wq, hwq⟩ : ∃ wq, w1.drewN nq = wq := ⟨_, rfl⟩
  have BQ : Hid (Below w1.heap.size w1 wq) := Lib.hid (hwq ▸ below_drewN (Below.refl _ _) nq)
  rw [hwq]
  clear hwq c2
  have HQ := Lib.hid (H1.out.kept BQ.out)
  go_wp2_with (go_at_call 48; refine (HST.out wq HQ.out).mono ?_; rintro e w3 ⟨rfl, hk, hb⟩; have E3 := Lib.hid (HE.out wq w3 HQ.out hk hb); clear hk hb)
  go_ret
  exact ⟨rfl, _, E3.out.1, rfl, (Does.of_below (B1.out.trans (BQ.out.mono B1.out.size)) (fun _ hk => .inl hk)).trans E3.out.2⟩

/-- What is left of a file behind a crash. -/
def LeftOf (a b : Rd) : Prop := b.1 = a.1 ∧ b.2.2 = b.2.1.length ∧ a.2.2 ≤ b.2.1.length ∧ b.2.1.length ≤ a.2.1.length ∧ b.2.1 = a.2.1.take b.2.1.length
theorem rev1_left (keep : List Int) (n : Nat) (p : Rd) (h : 0 ≤ p.2.2 ∧ p.2.2 ≤ p.2.1.length) : LeftOf p (rev1 keep n p).1 := by
  unfold rev1 LeftOf
  by_cases hu : 0 < (p.2.1.length : Int) - p.2.2
  · rw [if_pos hu]
    obtain ⟨h1, h2⟩ := kept_in keep n (p.2.1.length - p.2.2) hu
    have hl : (p.2.1.take (p.2.2 + keptM keep n (p.2.1.length - p.2.2)).toNat).length = (p.2.2 + keptM keep n (p.2.1.length - p.2.2)).toNat := by
      rw [List.length_take]
      omega
    refine ⟨rfl, ?_, ?_, ?_, ?_⟩
    · show p.2.2 + keptM keep n (p.2.1.length - p.2.2) = ((p.2.1.take (p.2.2 + keptM keep n (p.2.1.length - p.2.2)).toNat).length : Int)
      rw [hl]
      omega
    · show p.2.2 ≤ ((p.2.1.take (p.2.2 + keptM keep n (p.2.1.length - p.2.2)).toNat).length : Int)
      rw [hl]
      omega
    · show (p.2.1.take (p.2.2 + keptM keep n (p.2.1.length - p.2.2)).toNat).length ≤ _
      rw [hl]
      omega
    · show p.2.1.take (p.2.2 + keptM keep n (p.2.1.length - p.2.2)).toNat = p.2.1.take (p.2.1.take (p.2.2 + keptM keep n (p.2.1.length - p.2.2)).toNat).length
      rw [hl]
  · rw [if_neg hu]
    exact ⟨rfl, rfl, h.2, Nat.le_refl _, by show p.2.1 = p.2.1.take p.2.1.length; rw [List.take_length]⟩
theorem revL_left (keep : List Int) : ∀ (fs : List Rd) (n : Nat), Sane fs → (revL keep n fs).length = fs.length ∧ ∀ (i : Nat) (a b : Rd), fs[i]? = some a → (revL keep n fs)[i]? = some b → LeftOf a b
  | [], _, _ => ⟨rfl, fun i a b h => by simp at h⟩
  | p :: fs, n, h => by
    obtain ⟨h1, h2⟩ := revL_left keep fs (rev1 keep n p).2 (fun x hx => h x (List.mem_cons_of_mem _ hx))
    refine ⟨by simp [revL, h1], fun i a b ha hb => ?_⟩
    cases i with
    | zero =>
      simp at ha hb
      subst ha
      rw [show revL keep n (p :: fs) = (rev1 keep n p).1 :: revL keep (rev1 keep n p).2 fs from rfl] at hb
      simp at hb
      subst hb
      exact rev1_left keep n p (h p (by simp))
    | succ i =>
      rw [show revL keep n (p :: fs) = (rev1 keep n p).1 :: revL keep (rev1 keep n p).2 fs from rfl] at hb
      exact h2 i a b (by simpa using ha) (by simpa using hb)
theorem revL_synced (keep : List Int) : ∀ (fs : List Rd) (n : Nat), (∀ x ∈ fs, x.2.2 = x.2.1.length) → revL keep n fs = fs
  | [], _, _ => rfl
  | p :: fs, n, h => by
    have hp := h p (by simp)
    have e : rev1 keep n p = (p, n) := by
      unfold rev1
      rw [hp, if_neg (by omega)]
      rw [← hp]
    show (rev1 keep n p).1 :: revL keep (rev1 keep n p).2 fs = p :: fs
    rw [e, revL_synced keep fs n (fun x hx => h x (List.mem_cons_of_mem _ hx))]
theorem revL_mem {keep : List Int} {fs : List Rd} {n : Nat} (h : Sane fs) {b : Rd} (hb : b ∈ revL keep n fs) : ∃ a ∈ fs, LeftOf a b := by
  obtain ⟨h1, h2⟩ := revL_left keep fs n h
  obtain ⟨i, hi, e⟩ := List.mem_iff_getElem.1 hb
  have hi2 : i < fs.length := by omega
  exact ⟨fs[i], List.getElem_mem hi2, h2 i _ _ (List.getElem?_eq_getElem hi2) (by rw [List.getElem?_eq_getElem hi, e])⟩
theorem revL_sane {keep : List Int} {fs : List Rd} {n : Nat} (h : Sane fs) : Sane (revL keep n fs) := fun b hb => by
  obtain ⟨a, _, h1, h2, _⟩ := revL_mem h hb
  rw [h2]
  exact ⟨by omega, by omega⟩
theorem revL_len {keep : List Int} {fs : List Rd} {n : Nat} (h : Sane fs) : (revL keep n fs).length = fs.length := (revL_left keep fs n h).1
theorem revL_fits {m : Vm} {keep : List Int} {n N : Nat} {ops room : Int} {k : List Int} {d : Bool} (h : Fits m N) (hs : Sane m.fs) : Fits ⟨revL keep n m.fs, room, ops, k, d⟩ N := by
  refine ⟨?_, fun b hb => ?_, fun b hb => ?_⟩
  · show (revL keep n m.fs).length * 48 ≤ _
    rw [revL_len hs]
    exact h.few
  · obtain ⟨a, ha, h1, h2, h3, h4, h5⟩ := revL_mem hs hb
    have := h.long a ha
    omega
  · obtain ⟨a, ha, h1, -⟩ := revL_mem hs hb
    rw [h1]
    exact h.names a ha
theorem insAll_rd : ∀ l l' : List Fl, l.map Fl.rd = l'.map Fl.rd → (insAll l).map Fl.rd = (insAll l').map Fl.rd := fun l l' h => by
  have key : ∀ (l l' a a' : List Fl), l.map Fl.rd = l'.map Fl.rd → a.map Fl.rd = a'.map Fl.rd → (l.foldl (fun acc q => insF q acc) a).map Fl.rd = (l'.foldl (fun acc q => insF q acc) a').map Fl.rd := by
    intro l
    induction l with
    | nil =>
      intro l' a a' h h2
      cases l' with
      | nil => exact h2
      | cons _ _ => simp at h
    | cons x l ih =>
      intro l' a a' h h2
      cases l' with
      | nil => simp at h
      | cons y l' =>
        simp only [List.map_cons, List.cons.injEq] at h
        rw [List.foldl_cons, List.foldl_cons]
        refine ih l' _ _ h.2 ?_
        rw [insM_rd, insM_rd, h.1, h2]
  exact key l l' [] [] h rfl
theorem ofE_zero {l : List Fl} (h : ofE l = 0) : (∀ q ∈ l, okName q.s = true) ∧ dupB l = false ∧ ∀ q ∈ l, 0 ≤ q.y ∧ q.y ≤ q.d.l.length := by
  unfold ofE at h
  by_cases h1 : l.any (fun q => !okName q.s) = true
  · rw [if_pos h1] at h
    cases h
  · rw [if_neg h1] at h
    by_cases h2 : dupB l = true
    · rw [if_pos h2] at h
      cases h
    · rw [if_neg h2] at h
      by_cases h3 : l.any (fun q => decide (q.y < 0 ∨ (q.d.l.length : Int) < q.y)) = true
      · rw [if_pos h3] at h
        cases h
      · refine ⟨fun q hq => ?_, by simpa using h2, fun q hq => ?_⟩
        · cases ho : okName q.s
          · exact absurd (List.any_eq_true.2 ⟨q, hq, by simp [ho]⟩) h1
          · rfl
        · have : ¬ (q.y < 0 ∨ (q.d.l.length : Int) < q.y) := fun e => h3 (List.any_eq_true.2 ⟨q, hq, by simpa using e⟩)
          omega
theorem insAll_sane {l : List Fl} (h : ∀ q ∈ l, 0 ≤ q.y ∧ q.y ≤ q.d.l.length) : Sane ((insAll l).map Fl.rd) := fun x hx => by
  obtain ⟨q, hq, rfl⟩ := List.mem_map.1 hx
  exact h q (insAll_mem l q hq)

end Go.Proofs.Ytjacjafpeajhaaa
