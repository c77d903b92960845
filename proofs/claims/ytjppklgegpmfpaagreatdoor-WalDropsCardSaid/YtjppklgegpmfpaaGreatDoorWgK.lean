/-
  Walks: a broken segment is cut.
-/
import Derived.Test.YtjppklgegpmfpaaGreatDoorWgJ
namespace Go.Proofs.YtjppklgegpmfpaaGreatDoor
open Go.RowKit
open Go.Maps

/-- What is turned above all that was there counts for nothing. -/
theorem Does.poke {S S' : Nat → Prop} {a b c : World} (h : Does S S' a b) (h1 : c.os = b.os) (h2 : c.tape = b.tape) (h3 : c.output = b.output) (h4 : c.heap.size = b.heap.size) (h5 : ∀ k, k < a.heap.size → c.heap[k]? = b.heap[k]?) : Does S S' a c :=
  ⟨h1.trans h.os, h2.trans h.tape, h3.trans h.output, by rw [h4]; exact h.size, fun k hk hs => (h5 k hk).trans (h.block k hk hs), h.grows⟩
/-- What is laid at H stays. -/
structure Kept5 (H : Nat) (w1 w' : World) (S : Nat → Prop) : Prop where
  eq : ∀ j, H ≤ j → j < w1.heap.size → w'.heap[j]? = w1.heap[j]?
  off : ∀ j, H ≤ j → j < w1.heap.size → ¬ S j
  size : w1.heap.size ≤ w'.heap.size
theorem Kept5.does {H : Nat} {w1 w' w'' : World} {S S' : Nat → Prop} (h : Kept5 H w1 w' S) (hd : Does S S' w' w'') : Kept5 H w1 w'' S' :=
  ⟨fun j h1 h2 => (hd.block j (Nat.lt_of_lt_of_le h2 h.size) (h.off j h1 h2)).trans (h.eq j h1 h2), fun j h1 h2 hs => (hd.grows j hs).elim (h.off j h1 h2) (fun e => by have := h.size; omega), Nat.le_trans h.size hd.size⟩
theorem Kept5.below {H : Nat} {w1 w' w'' : World} {S : Nat → Prop} (h : Kept5 H w1 w' S) (hd : Below w'.heap.size w' w'') : Kept5 H w1 w'' S := h.does (Does.of_below hd (fun _ hk => .inl hk))

set_option maxRecDepth 100000 in
set_option maxHeartbeats 8000000 in
theorem cutLog_any (B g lb k : Nat) (d : Pk) (s : Ls) (p : ByteArray) (size : Nat) (m1 m2 m3 : Vm) (r3 : Int) (wA bA : Option Addr) (b : List Int) (n wc bc : Nat) (w : World) (h : LSt w B g lb d s p size) (hp : IsPre p) (hk : k ≤ 999999) (hT : Tab B w)
    (hn : b.length = n) (hbb : Byt b) (hby : Bys w wA b) (hbo : ∀ ad, wA = some ad → ¬ d.own g ad.block ∧ ad.block < w.heap.size) (hf : Fits s.m n) (hsum : sumM s.m.fs + n ≤ 4611686018427387904) (hn47 : n ≤ 140737488355328) (hfew : m2.fs.length * 48 ≤ 140737488355328)
    (h1 : s.m.append (tmp p) b = (m1, 0)) (h2 : m1.sync (tmp p) = (m2, 0)) (h3 : m2.rename (tmp p) (seg p k) = (m3, r3)) :
    Calls Tryz.prog 39 #[.pointer (some ⟨lb, 0, none⟩), .int .i64 (k : Int), .slice wA n wc, .slice bA 0 bc] w fun e w' => e = .returned (.int .i64 r3) ∧ LRest w B g lb d p size { s with m := m3 } w' := by
  have H := Lib.hid h
  have HP := Lib.hid hp
  have HT := Lib.hid hT
  have HK := Lib.hid hk
  have HIN := Lib.hid (And.intro hn (And.intro hbb (And.intro hby (And.intro hbo (And.intro hf (And.intro hsum hn47))))))
  have HM := Lib.hid (And.intro h1 (And.intro h2 (And.intro h3 hfew)))
  clear h hp hT hk hn hbb hby hbo hf hsum hn47 h1 h2 h3 hfew
  refine (callsIn_wide (n := 9)).1 ?_
  refine callsIn_of_wp_marks Tryz.func39 rfl trivial ?_ rfl
  simp only [Tryz.ntmps39, List.size_toArray, List.length_cons, List.length_nil, Nat.reduceAdd, Nat.reduceSub, Array.replicate_succ, Array.replicate_zero, List.push_toArray, List.append_toArray, List.nil_append, List.cons_append]
  refine wpIn_wide.2 ?_
  go_wp2_with (go_at_call 54; refine (backward_any _ _ _ _).mono ?_; rintro e w1 ⟨rfl, rfl⟩)
  obtain ⟨w1, hw1⟩ : ∃ w1, (((w.alloc (.cells #[.pointer (some ⟨lb, 0, none⟩)] 30)).alloc (.cells #[.int .i64 0] 31)).alloc (.cells #[.slice bA 0 bc] 23)) = w1 := ⟨_, rfl⟩
  have B1 : Hid (Below w.heap.size w w1) := Lib.hid (hw1 ▸ ((below_new w _).alloc (by simp) _).alloc (by simp; omega) _)
  have S1 : Hid (w1.heap.size = w.heap.size + 3) := Lib.hid (by rw [← hw1]; simp)
  have HX : Hid (w1.heap[w.heap.size]? = some (.cells #[.pointer (some ⟨lb, 0, none⟩)] 30 (0, 0)) ∧ w1.heap[w.heap.size + 1]? = some (.cells #[.int .i64 0] 31 (0, 0)) ∧ w1.heap[w.heap.size + 2]? = some (.cells #[.slice bA 0 bc] 23 (0, 0))) := Lib.hid (by
    rw [← hw1]
    refine ⟨?_, ?_, ?_⟩
    · rw [RowKit.Below.heap_alloc _ _ _ (by simp; omega), RowKit.Below.heap_alloc _ _ _ (by simp)]
      exact heap_alloc_new w _
    · rw [RowKit.Below.heap_alloc _ _ _ (by simp)]
      have := heap_alloc_new (w.alloc (.cells #[.pointer (some ⟨lb, 0, none⟩)] 30)) (.cells #[.int .i64 0] 31)
      rwa [World.size_alloc] at this
    · have := heap_alloc_new ((w.alloc (.cells #[.pointer (some ⟨lb, 0, none⟩)] 30)).alloc (.cells #[.int .i64 0] 31)) (.cells #[.slice bA 0 bc] 23)
      rwa [World.size_alloc, World.size_alloc] at this)
  rw [hw1]
  clear hw1
  refine range_none (gf := 73) (lb := #[.pointer (some ⟨w.heap.size + 1 + 1, 0, none⟩)]) rfl (enters_of Tryz.func73 (by kernel_rfl) rfl) (fun W hb => backward_none _ _ bc bA W ?_) (fun W hb hdef => ?_)
  · have e := (hb.block (w.heap.size + 2) (by have := S1.out; omega)).trans HX.out.2.2
    simp [World.cell?, e]
  have BW : Hid (Below w.heap.size w W) := Lib.hid (B1.out.trans (hb.mono B1.out.size))
  have HW : Hid (W.heap[w.heap.size]? = some (.cells #[.pointer (some ⟨lb, 0, none⟩)] 30 (0, 0)) ∧ W.heap[w.heap.size + 1]? = some (.cells #[.int .i64 0] 31 (0, 0)) ∧ W.heap[w.heap.size + 3]? = some (.deferred (some []))) := Lib.hid ⟨(hb.block _ (by have := S1.out; omega)).trans HX.out.1, (hb.block _ (by have := S1.out; omega)).trans HX.out.2.1, by rw [← S1.out]; exact hdef⟩
  rw [S1.out]
  have LW := Lib.hid (H.out.kept BW.out)
  have KW : Hid (Kept5 w.heap.size W W (lown d g lb)) := Lib.hid ⟨fun _ _ _ => rfl, fun j h1 _ hs => by have := (H.out.owned j hs).2; omega, Nat.le_refl _⟩
  have HSX : Hid (∀ (X : World) (d' : Pk) (s' : Ls), LSt X B g lb d' s' p size → Kept5 w.heap.size W X (lown d' g lb) → X.cell? ⟨w.heap.size, 0, none⟩ = some (.pointer (some ⟨lb, 0, none⟩)) ∧ X.cell? ⟨lb, 0, none⟩ = some (.pointer (some ⟨g, 0, none⟩))) := Lib.hid (fun X d' s' k1 k2 => by
    have e := (k2.eq _ (Nat.le_refl _) (Array.getElem?_eq_some_iff.1 HW.out.1).1).trans HW.out.1
    exact ⟨by simp [World.cell?, e], k1.lg.cell.1⟩)
  have HTM : Hid (∀ (X : World) (d' : Pk) (s' : Ls), LSt X B g lb d' s' p size → Calls Tryz.prog 37 #[.pointer (some ⟨lb, 0, none⟩)] X fun e w' => e = .returned (.string (tmp p)) ∧ X = w') := Lib.hid (fun X d' s' k1 => temp_any lb g _ X HP.out k1.lg)
  have HNM : Hid (∀ (X : World) (d' : Pk) (s' : Ls), LSt X B g lb d' s' p size → Below B w X → Calls Tryz.prog 26 #[.pointer (some ⟨lb, 0, none⟩), .int .i64 (k : Int)] X fun e w' => e = .returned (.string (seg p k)) ∧ Below X.heap.size X w') := Lib.hid (fun X d' s' k1 k2 => name_any B lb g k _ X HP.out HK.out k1.lg (HT.out.on k2) k1.size_le)
  have HAP : Hid (∀ (X : World), Below w.heap.size w X → Calls Tryz.prog 25 #[.pointer (some ⟨g, 0, none⟩), .string (tmp p), .slice wA n wc] X fun e w' => e = .returned (.int .i64 0) ∧ LRest X B g lb d p size { s with m := m1 } w') := Lib.hid (fun X hX => by
    obtain ⟨i1, i2, i3, i4, i5, i6, i7⟩ := HIN.out
    refine (append_vm B g d s.m m1 0 (tmp p) wA b n wc X (H.out.kept hX).ps H.out.vm (pre_size' HP.out) i1 i2 (i3.kept hX) (fun ad ha => ⟨(i4 ad ha).1, Nat.lt_of_lt_of_le (i4 ad ha).2 hX.size⟩) i5 i6 i7 HM.out.1).mono ?_
    rintro e w' ⟨rfl, hr⟩
    exact ⟨rfl, (H.out.kept hX).rest hr⟩)
  have HSY : Hid (∀ (X : World) (d' : Pk), LSt X B g lb d' { s with m := m1 } p size → Calls Tryz.prog 27 #[.pointer (some ⟨g, 0, none⟩), .string (tmp p)] X fun e w' => e = .returned (.int .i64 0) ∧ LRest X B g lb d' p size { s with m := m2 } w') := Lib.hid (fun X d' k1 => by
    refine (sync_vm B g d' m1 m2 0 (tmp p) X k1.ps k1.vm (pre_size' HP.out) HM.out.2.1).mono ?_
    rintro e w' ⟨rfl, hr⟩
    exact ⟨rfl, k1.rest hr⟩)
  have HRN : Hid (∀ (X : World) (d' : Pk), LSt X B g lb d' { s with m := m2 } p size → Calls Tryz.prog 55 #[.pointer (some ⟨g, 0, none⟩), .string (tmp p), .string (seg p k)] X fun e w' => e = .returned (.int .i64 r3) ∧ LRest X B g lb d' p size { s with m := m3 } w') := Lib.hid (fun X d' k1 => by
    refine (rename_vm B g d' m2 m3 r3 (tmp p) (seg p k) X k1.ps k1.vm (pre_size' HP.out) (pre_size HP.out k) HM.out.2.2.2 HM.out.2.2.1).mono ?_
    rintro e w' ⟨rfl, hr⟩
    exact ⟨rfl, k1.rest hr⟩)
  generalize seg p k = sg at HNM HRN
  generalize tmp p = tg at HTM HAP HSY HRN
  clear hb hdef
  try simp only [Exit.inBlock, Exit.then]
  go_upto_region 6 with fail
  go_region_held3 (fun X => X.cell? ⟨w.heap.size, 0, none⟩ = some (.pointer (some ⟨lb, 0, none⟩)) ∧ X.cell? ⟨lb, 0, none⟩ = some (.pointer (some ⟨g, 0, none⟩))) (first | exact HSX.out _ _ _ E5.out.1 K5.out | exact HSX.out _ d s LW.out KW.out | exact HSX.out _ d s (LW.out.kept (Below.refl _ _).drew) (KW.out.below (Below.refl _ _).drew) | go_keep) (first
    | (go_at_call 37; refine (HTM.out _ d s (by first | exact LW.out | exact LW.out.kept (Below.refl _ _).drew)).mono ?_; rintro e w4 ⟨rfl, hx⟩; subst hx)
    | (go_at_call 25; refine (HAP.out _ (by first | exact BW.out | exact BW.out.drew)).mono ?_; rintro e w5 ⟨rfl, d5, hx⟩; have E5 : Hid (LSt w5 B g lb d5 { s with m := m1 } p size ∧ Does (lown d g lb) (lown d5 g lb) W w5) := Lib.hid ⟨hx.1, (Does.of_below (by first | exact Below.refl _ _ | exact (Below.refl _ _).drew : Below W.heap.size W _) (fun _ hk => .inl hk)).trans hx.2⟩; have K5 := Lib.hid (KW.out.does E5.out.2); clear hx))
  go_upto_region 9 with fail
  go_region_held3 (fun X => X.cell? ⟨w.heap.size, 0, none⟩ = some (.pointer (some ⟨lb, 0, none⟩)) ∧ X.cell? ⟨lb, 0, none⟩ = some (.pointer (some ⟨g, 0, none⟩))) (first | exact HSX.out _ _ _ E6.out.1 K6.out | exact HSX.out _ _ _ E5.out.1 K5.out | exact HSX.out _ _ _ (E5.out.1.kept (Below.refl _ _).drew) (K5.out.below (Below.refl _ _).drew) | go_keep) (first
    | (go_at_call 37; refine (HTM.out _ d5 _ (by first | exact E5.out.1 | exact E5.out.1.kept (Below.refl _ _).drew)).mono ?_; rintro e w5' ⟨rfl, hx⟩; subst hx)
    | (go_at_call 27; refine (HSY.out _ d5 (by first | exact E5.out.1 | exact E5.out.1.kept (Below.refl _ _).drew)).mono ?_; rintro e w6 ⟨rfl, d6, hx⟩; have E6 : Hid (LSt w6 B g lb d6 { s with m := m2 } p size ∧ Does (lown d5 g lb) (lown d6 g lb) w5 w6) := Lib.hid ⟨hx.1, (Does.of_below (by first | exact Below.refl _ _ | exact (Below.refl _ _).drew : Below w5.heap.size w5 _) (fun _ hk => .inl hk)).trans hx.2⟩; have K6 := Lib.hid (K5.out.does E6.out.2); clear hx))
  have B6 : Hid (Below B w w6) := Lib.hid ((BW.out.mono H.out.size_le).trans ((E5.out.2.below LW.out.size_le (fun k hk => (LW.out.owned k hk).1)).trans (E6.out.2.below E5.out.1.size_le (fun k hk => (E5.out.1.owned k hk).1))))
  go_upto_region 12 with fail
  go_region_held3 (fun X => X.cell? ⟨w.heap.size, 0, none⟩ = some (.pointer (some ⟨lb, 0, none⟩)) ∧ X.cell? ⟨lb, 0, none⟩ = some (.pointer (some ⟨g, 0, none⟩))) (first | exact S9.out | exact HSX.out _ _ _ E8.out.1 K8.out | exact HSX.out _ _ _ (E6.out.1.kept E7.out) (K6.out.below E7.out) | exact HSX.out _ _ _ E6.out.1 K6.out | exact HSX.out _ _ _ (E6.out.1.kept (Below.refl _ _).drew) (K6.out.below (Below.refl _ _).drew) | go_keep) (first
    | (go_at_call 37; refine (HTM.out _ d6 _ (by first | exact E6.out.1 | exact E6.out.1.kept (Below.refl _ _).drew | exact E6.out.1.kept E7.out)).mono ?_; rintro e w6' ⟨rfl, hx⟩; subst hx)
    | (go_at_call 26; refine (HNM.out _ d6 _ (by first | exact E6.out.1 | exact E6.out.1.kept (Below.refl _ _).drew) (by first | exact B6.out | exact B6.out.drew)).mono ?_; rintro e w7 ⟨rfl, hx⟩; have E7 : Hid (Below w6.heap.size w6 w7) := Lib.hid ((by first | exact Below.refl _ _ | exact (Below.refl _ _).drew : Below w6.heap.size w6 _).trans hx); clear hx)
    | (go_at_call 55; refine (HRN.out _ d6 (E6.out.1.kept E7.out)).mono ?_; rintro e w8 ⟨rfl, d8, hx⟩; have E8 : Hid (LSt w8 B g lb d8 { s with m := m3 } p size ∧ Does (lown d6 g lb) (lown d8 g lb) w6 w8) := Lib.hid ⟨hx.1, (Does.of_below E7.out (fun _ hk => .inl hk)).trans hx.2⟩; have K8 := Lib.hid (K6.out.does E8.out.2); have h8 := (K8.out.eq (w.heap.size + 1) (by omega) (Array.getElem?_eq_some_iff.1 HW.out.2.1).1).trans HW.out.2.1; have c8 : w8.cell? ⟨w.heap.size + 1, 0, none⟩ = some (.int .i64 0) := (by simp [World.cell?, h8]); have f8 : w8.frozen? ⟨w.heap.size + 1, 0, none⟩ = false := (by simp [World.frozen?, h8]); have H8 := Lib.hid h8; have S9 : Hid ((w8.setCell ⟨w.heap.size + 1, 0, none⟩ (.int .i64 r3)).cell? ⟨w.heap.size, 0, none⟩ = some (.pointer (some ⟨lb, 0, none⟩)) ∧ (w8.setCell ⟨w.heap.size + 1, 0, none⟩ (.int .i64 r3)).cell? ⟨lb, 0, none⟩ = some (.pointer (some ⟨g, 0, none⟩))) := Lib.hid ⟨(World.cell?_of_block (Below.heap_setCell w8 ⟨w.heap.size + 1, 0, none⟩ _ _ (by simp only; omega))).trans (HSX.out _ _ _ E8.out.1 K8.out).1, (World.cell?_of_block (Below.heap_setCell w8 ⟨w.heap.size + 1, 0, none⟩ _ _ (by have := H.out.lg.lt; simp only; omega))).trans (HSX.out _ _ _ E8.out.1 K8.out).2⟩; clear hx h8))
  all_goals
    have h9 := (K8.out.eq (w.heap.size + 3) (by omega) (Array.getElem?_eq_some_iff.1 HW.out.2.2).1).trans HW.out.2.2
    have hK : Hid ((w8.setCell ⟨w.heap.size + 1, 0, none⟩ (.int .i64 r3)).heap[w.heap.size + 3]? = some (.deferred (some []))) := Lib.hid ((Below.heap_setCell w8 ⟨w.heap.size + 1, 0, none⟩ _ _ (by simp only; omega)).trans h9)
    have hC : Hid (((w8.setCell ⟨w.heap.size + 1, 0, none⟩ (.int .i64 r3)).putObj (w.heap.size + 3) (.deferred none)).cell? ⟨w.heap.size + 1, 0, none⟩ = some (.int .i64 r3)) := Lib.hid (by
      have e : ((w8.setCell ⟨w.heap.size + 1, 0, none⟩ (.int .i64 r3)).putObj (w.heap.size + 3) (.deferred none)).heap[w.heap.size + 1]? = some (.cells #[.int .i64 r3] 31 (0, 0)) := by
        rw [World.putObj_heap_other (by omega)]
        simp [World.setCell, Array.getElem?_modify, H8.out]
      simp [World.cell?, e])
    have HD : Hid (Does (lown d g lb) (lown d8 g lb) w w8) := Lib.hid ((Does.of_below BW.out (fun _ hk => .inl hk)).trans ((E5.out.2.trans E6.out.2).trans E8.out.2))
    have HE : Hid (LRest w B g lb d p size { s with m := m3 } ((w8.setCell ⟨w.heap.size + 1, 0, none⟩ (.int .i64 r3)).putObj (w.heap.size + 3) (.deferred none))) := Lib.hid (by
      have hne : ∀ k, k ≠ w.heap.size + 1 → k ≠ w.heap.size + 3 → ((w8.setCell ⟨w.heap.size + 1, 0, none⟩ (.int .i64 r3)).putObj (w.heap.size + 3) (.deferred none)).heap[k]? = w8.heap[k]? := fun k h1 h2 => by
        rw [World.putObj_heap_other (by omega)]
        exact Below.heap_setCell w8 ⟨w.heap.size + 1, 0, none⟩ _ _ h1
      have hw1 := (Array.getElem?_eq_some_iff.1 HW.out.2.1).1
      have hw3 := (Array.getElem?_eq_some_iff.1 HW.out.2.2).1
      refine ⟨d8, E8.out.1.of (fun k hk => hne k (fun e => K8.out.off k (by omega) (by omega) hk) (fun e => K8.out.off k (by omega) (by omega) hk)), HD.out.poke rfl rfl rfl (by simp [World.putObj]) (fun k hk => hne k (by omega) (by omega))⟩)
    clear h9 c8 f8
    go_wp2_with fail
    refine ⟨by simp, .inl ⟨_, _, rfl, run_takeDeferred hK.out, ?_⟩⟩
    refine ⟨_, ?_, rfl, HE.out⟩
    simp [results, Tryz.f39, go_sem, hC.out]

end Go.Proofs.YtjppklgegpmfpaaGreatDoor
