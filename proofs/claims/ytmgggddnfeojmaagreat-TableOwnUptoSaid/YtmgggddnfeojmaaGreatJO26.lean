/-
  Walks: Get, with blocks of who calls apart from the table. TableTold: what its walk needs besides: a file opened, slices of entries from the front.
-/
import Derived.Laws.BitsAllLaws
import Derived.Test.YtmgggddnfeojmaaGreatJO09
import Derived.Test.YtmgggddnfeojmaaGreatJO20
import Derived.Test.YtmgggddnfeojmaaGreatJO25
set_option linter.unusedSimpArgs false
set_option linter.unusedVariables false
namespace Go.Proofs.YtmgggddnfeojmaaGreat.GetX
open Go.RowKit Go.Shelf
attribute [local go_sem] Oper.semAt_some
def ClG (X H : Nat) : World → Nat → Prop := fun _ g => X ≤ g ∧ g < H + 8
/-- What Get answers. -/
def GetE (X : Nat) (t : Tm) (K : List Int) (s : Int) (w : World) (e : Ending) (w' : World) : Prop := ∃ (y : En) (b : Bool) (er : Int), AnsG (getP t.tb K s) y b er ∧ e = .returned (.tuple #[y.val, .bool b, .int .i64 er]) ∧ Row w' w.heap.size y.k.a y.k.c y.k.l ∧ Row w' w.heap.size y.v.a y.v.c y.v.l ∧ Tw t.mb w w' ∧ TabW (fun g => X ≤ g ∧ g < w.heap.size) w' t
def IG (X H : Nat) (w : World) (t : Tm) (k : Sl) (s : Int) (z : Nat × World) (W : World) : Prop := z.1 = 0 ∧ KG H w t k s W ∧ TabW (ClG X H W) W t
def XG (X H : Nat) (w : World) (t : Tm) (k : Sl) (s : Int) (z : Nat × World) (W : World) : Prop := Fr (ClG X H) z.2 W ∧ TabW (ClG X H W) W t ∧ Tw t.mb w W ∧ GotG H (getP t.tb k.l s) W ∧ (z.1 = 2 → getP t.tb k.l s = (none, false))
section
variable {X H : Nat} {w W W' : World} {t : Tm} {k : Sl} {s : Int}
theorem fr_grown (hX : X ≤ H) {row : Option Nat} (hg : W.grownBy W' row) (hr : ∀ r, row = some r → H + 6 ≤ r ∧ r < H + 8) : Fr (ClG X H) W W' := fun g o ho hn => ⟨grown_obj ho hg (fun e => hn (by have := hr g e.symm; unfold ClG; omega)), hn⟩
theorem OwnAt.ig (hw : w.heap.size ≤ H) (hm : t.mb < X ∧ X ≤ H) : OwnAt (H + 6) (IG X H w t k s) := fun z W W' row ⟨h1, h2, h3⟩ hg hr => by
  have hr' : ∀ r, row = some r → H + 6 ≤ r ∧ r < H + 8 := fun r e => by have := (hr r e).1; omega
  exact ⟨h1, h2.grow hw hg (fun r e => (hr' r e).1), h3.fr (fr_grown hm.2 hg hr') (by unfold ClG; omega)⟩
theorem OwnAt.xg (hw : w.heap.size ≤ H) (hm : t.mb < X ∧ X ≤ H) : OwnAt (H + 6) (XG X H w t k s) := fun z W W' row ⟨h1, h2, h3, h4, h5⟩ hg hr => by
  have hr' : ∀ r, row = some r → H + 6 ≤ r ∧ r < H + 8 := fun r e => by have := (hr r e).1; omega
  have hf := fr_grown (X := X) (H := H) hm.2 hg hr'
  exact ⟨h1.trans hf, h2.fr hf (by unfold ClG; omega), h3.grow hg (fun r e => by have := (hr' r e).1; omega), h4.grow hg (fun r e => ⟨(hr' r e).1, (hr r e).2⟩), h5⟩
/-- The one who looks, as the one who asks. -/
theorem get_asks {M : Nat} (hw : w.heap.size = H) (hk0 : In w k.a k.l k.l.length k.c) (hm : t.mb < X ∧ X ≤ H) (hmm : MapAt w t.mb) (R : World → Prop) (R' : Nat × World → World → Prop)
    (hR : ∀ W W', R W → Two (H + 6) W W' → R W') (hRs : ∀ W, R W → H + 6 + 2 ≤ W.heap.size ∧ (∃ L, W.heap[H + 6 + 1]? = some (.loop L)) ∧ ∃ d, W.heap[H + 6]? = some (.deferred d))
    (hno : ∀ z args z' W, OffG t k s z args z' W → IG X H w t k s z W → R W → YieldAt Fence.wide M Tryz.prog (H + 6 + 1) args W fun e W' => e = .returned (.bool false) ∧ XG X H w t k s z' W' ∧ R' z' W') :
    Asks t (keyE k s) (H + 4) (H + 5) M (H + 6 + 1) (fun _ => true) (fun j W => (j = 0 ∧ KG H w t k s W) ∧ R W) (fun _ W => ∃ z : Nat × World, z.1 ≠ 0 ∧ XG X H w t k s z W ∧ R' z W) (ClG X H) where
  box := fun j W ⟨⟨_, h⟩, _⟩ => by
    have h4 := h.b4
    have h5 := h.b5
    refine ⟨by simp [World.cell?, h4], ⟨?_, ?_, ?_, ?_⟩, hk0.tw h.tw hmm, in_nil W⟩ <;> simp [World.cell?, h5, keyE, Sl.val]
  own := fun j W ⟨⟨_, h⟩, r⟩ => ⟨fun g q => by have := (hRs W r).1; unfold ClG at q; omega, by unfold ClG; omega⟩
  stay := fun j W W' ⟨⟨h0, h⟩, r⟩ hm' ht => by
    obtain ⟨-, ⟨L, e1⟩, d, e2⟩ := hRs W r
    exact ⟨⟨⟨h0, h.tw2 (by omega) ht⟩, hR W W' r ⟨(ht.obj e2 (by omega)).trans e2.symm, (ht.obj e1 (by omega)).trans e1.symm⟩⟩, fun g q => q⟩
  yes := fun j W y hM hst _ _ _ _ => by cases hst
  no := fun j W y hM _ ⟨⟨h0, h⟩, r⟩ hT hE hF => by
    subst h0
    obtain ⟨M', hM'⟩ : ∃ M', (goP t.tb (keyE k s).rd).1 = y.rd :: M' := by
      cases hq : (goP t.tb (keyE k s).rd).1 with
      | nil => rw [hq] at hM; simp at hM
      | cons a l => rw [hq] at hM; injection hM with hM; exact ⟨l, by rw [hM]⟩
    refine (hno (0, W) _ (if y.k.l = k.l then 1 else 2, W) W ⟨rfl, rfl, .inl ⟨y, M', hM', rfl, hE, hF, rfl⟩⟩ ⟨rfl, h, hT⟩ r).mono ?_
    rintro e W' ⟨rfl, k1, k2⟩
    exact ⟨rfl, ⟨_, by simp only; split <;> decide, k1, k2⟩, k1.1⟩
  bad := fun W hb ⟨⟨h0, h⟩, r⟩ hT => by
    have hp : goP t.tb (keyE k s).rd = ([], true) := Prod.ext (List.eq_nil_of_length_eq_zero h0) hb
    refine (hno (0, W) _ (3, W) W ⟨rfl, rfl, .inr ⟨hp, rfl, rfl⟩⟩ ⟨rfl, h, hT⟩ r).mono ?_
    rintro e W' ⟨rfl, k1, k2⟩
    exact ⟨rfl, ⟨_, by simp, k1, k2⟩, k1.1⟩
/-- A round's beginning. -/
theorem ig_round {z : Nat × World} {W₂ : World} {o : Obj} (hw : w.heap.size = H) (hm : t.mb < X ∧ X ≤ H) (hi : IG X H w t k s z W) (hz : H + 8 ≤ W.heap.size) (g2 : (W.alloc o).grownBy W₂ (some (H + 6 + 1))) (hl : ∃ o' : Obj, (W.alloc o).heap[H + 6 + 1]? = some o' ∧ o'.isCells = false) :
    KG H w t k s W₂ ∧ Fr (ClG X H) W W₂ ∧ TabW (ClG X H W₂) W₂ t ∧ H + 8 ≤ W₂.heap.size ∧ W₂.heap[W.heap.size]? = some o := by
  have hb := below_new W o
  have f1 : Fr (ClG X H) W (W.alloc o) := Fr.below hb (fun g q => q)
  have hr : ∀ r, some (H + 6 + 1) = some r → H + 6 ≤ r ∧ r < H + 8 := fun r e => by injection e with e; omega
  have f2 := f1.trans (fr_grown (H := H) hm.2 g2 hr)
  have hs := g2.size
  rw [World.size_alloc] at hs
  exact ⟨(hi.2.1.tw2 (by omega) (Tw.of_below hb)).grow (by omega) g2 (fun r e => (hr r e).1), f2, hi.2.2.fr f2 (by unfold ClG; omega), by omega, grown_obj (heap_alloc_new W o) g2 (fun e => by injection e with e; omega)⟩
/-- A round's end. -/
theorem xg_core {V W₂ W3 W5 : World} {y : En} {b : Bool} {er : Int} (n : Nat) (hm : t.mb < X ∧ X ≤ H) (hw : w.heap.size = H) (h2 : KG H w t k s W₂) (f2 : Fr (ClG X H) V W₂) (hT : TabW (ClG X H W₂) W₂ t) (hz : H ≤ W₂.heap.size) (b3 : Below W₂.heap.size W₂ W3) (k5 : Kp (fun j => j ≠ H + 1 ∧ j ≠ H + 1 + 1 ∧ j ≠ H + 1 + 1 + 1) W3 W5) (hr : ResG H y b er W5) (ha : AnsG (getP t.tb k.l s) y b er) (r1 : Row W3 W₂.heap.size y.k.a y.k.c y.k.l) (r2 : Row W3 W₂.heap.size y.v.a y.v.c y.v.l) (hx : H + 4 ≤ W₂.heap.size) (h22 : n = 2 → getP t.tb k.l s = (none, false)) :
    (∀ g o, W₂.heap[g]? = some o → (g ≠ H + 1 ∧ g ≠ H + 1 + 1 ∧ g ≠ H + 1 + 1 + 1) → W5.heap[g]? = some o) ∧ XG X H w t k s (n, V) W5 := by
  have ho : ∀ g o, W₂.heap[g]? = some o → (g ≠ H + 1 ∧ g ≠ H + 1 + 1 ∧ g ≠ H + 1 + 1 + 1) → W5.heap[g]? = some o := fun g o hg hn => (k5.block g hn).trans (obj_kept hg b3 (Nat.le_refl _))
  have f5 : Fr (ClG X H) W₂ W5 := fun g o hg hn => ⟨ho g o hg (by unfold ClG at hn; omega), hn⟩
  have hrow : ∀ {A : Option Addr} {c : Nat} {L : List Int}, Row W3 W₂.heap.size A c L → Row W5 H A c L := fun r => own_mono (own_kp r k5 (fun ad ha => by have := (own_in r ad ha).1; omega)) (by omega)
  refine ⟨ho, f2.trans f5, hT.fr f5 (by unfold ClG; omega), ?_, ⟨y, b, er, hr, ha, hrow r1, hrow r2⟩, h22⟩
  refine ⟨k5.os.trans (b3.os.trans h2.tw.os), k5.tape.trans (b3.tape.trans h2.tw.tape), k5.output.trans (b3.output.trans h2.tw.output), Nat.le_trans h2.tw.size (Nat.le_trans b3.size k5.size), fun j hj => ?_⟩
  have hj2 := h2.tw.size
  exact (k5.block j (by omega)).trans ((b3.block j (by omega)).trans (h2.tw.block j hj))
theorem xg_end {V W₂ W3 W5 : World} {y : En} {b : Bool} {er : Int} (n : Nat) (hm : t.mb < X ∧ X ≤ H) (hw : w.heap.size = H) (h2 : KG H w t k s W₂) (f2 : Fr (ClG X H) V W₂) (hT : TabW (ClG X H W₂) W₂ t) (hz : H + 8 ≤ W₂.heap.size) (b3 : Below W₂.heap.size W₂ W3) (k5 : Kp (fun j => j ≠ H + 1 ∧ j ≠ H + 1 + 1 ∧ j ≠ H + 1 + 1 + 1) W3 W5) (hr : ResG H y b er W5) (ha : AnsG (getP t.tb k.l s) y b er) (r1 : Row W3 W₂.heap.size y.k.a y.k.c y.k.l) (r2 : Row W3 W₂.heap.size y.v.a y.v.c y.v.l) (h22 : n = 2 → getP t.tb k.l s = (none, false)) :
    Two (H + 6) W₂ W5 ∧ XG X H w t k s (n, V) W5 := by
  obtain ⟨ho, hx⟩ := xg_core n hm hw h2 f2 hT (by omega) b3 k5 hr ha r1 r2 (by omega) h22
  obtain ⟨o3, g3⟩ : ∃ o, W₂.heap[H + 6]? = some o := ⟨_, Array.getElem?_eq_getElem (by omega)⟩
  obtain ⟨o4, g4⟩ : ∃ o, W₂.heap[H + 6 + 1]? = some o := ⟨_, Array.getElem?_eq_getElem (by omega)⟩
  exact ⟨⟨(ho _ _ g3 (by omega)).trans g3.symm, (ho _ _ g4 (by omega)).trans g4.symm⟩, hx⟩
/-- Behind a break. -/
theorem xg_zero {z : Nat × World} {W5 : World} (hm : t.mb < X ∧ X ≤ H) (hw : w.heap.size = H) (hx : XG X H w t k s z W) (k5 : Kp (fun j => j ≠ H + 1 ∧ j ≠ H + 1 + 1 ∧ j ≠ H + 1 + 1 + 1) W W5) (hz : H ≤ W.heap.size) : Tw t.mb w W5 ∧ TabW (ClG X H W5) W5 t := by
  obtain ⟨-, h2, h3, -⟩ := hx
  refine ⟨⟨k5.os.trans h3.os, k5.tape.trans h3.tape, k5.output.trans h3.output, Nat.le_trans h3.size k5.size, fun j hj => (k5.block j (by omega)).trans (h3.block j hj)⟩, ?_⟩
  exact h2.fr (fun g o hg hn => ⟨(k5.block g (by unfold ClG at hn; omega)).trans hg, hn⟩) (by unfold ClG; omega)
end
theorem get_answer {X H : Nat} {y : En} {b : Bool} {er : Int} {w W : World} {t : Tm} {K : List Int} {s : Int} (hw : w.heap.size = H) (hr : ResG H y b er W) (ha : AnsG (getP t.tb K s) y b er) (r1 : Row W H y.k.a y.k.c y.k.l) (r2 : Row W H y.v.a y.v.c y.v.l) (ht : Tw t.mb w W) (hT : TabW (ClG X H W) W t) (hm : t.mb < X ∧ X ≤ H) (hK : W.heap[H + 6]? = some (.deferred (some []))) :
    GetE X t K s w (.returned (.tuple #[.agg #[.slice y.k.a y.k.l.length y.k.c, .int .i64 y.s, .bool y.d, .slice y.v.a y.v.l.length y.v.c], .bool b, .int .i64 er])) (W.putObj (H + 6) (.deferred none)) := by
  have hg := grownBy_putObj' W (H + 6) (.deferred none)
  have hr' : ∀ r, some (H + 6) = some r → H + 6 ≤ r ∧ ∃ o : Obj, W.heap[r]? = some o ∧ o.isCells = false := fun r e => by injection e with e; subst e; exact ⟨Nat.le_refl _, _, hK, rfl⟩
  subst hw
  exact ⟨y, b, er, ha, rfl, own_abide r1 hg (fun r e => (hr' r e).2), own_abide r2 hg (fun r e => (hr' r e).2), ht.grow hg (fun r e => by have := (hr' r e).1; omega), (hT.fr (fr_grown (H := w.heap.size) hm.2 hg (fun r e => by injection e with e; omega)) (by unfold ClG; omega)).less (fun g hg => by unfold ClG; omega)⟩
set_option maxRecDepth 100000 in
set_option maxHeartbeats 8000000 in
theorem get_any (X : Nat) (t : Tm) (k : Sl) (s : Int) (w : World) (h : TabW (fun g => X ≤ g ∧ g < w.heap.size) w t) (hmX : t.mb < X) (hX : X ≤ w.heap.size) (hk : In w k.a k.l k.l.length k.c) (hrl : t.R.length ≤ 2305843009213693952) :
    Calls Tryz.prog 23 #[.pointer (some ⟨t.b, 0, none⟩), .slice k.a k.l.length k.c, .int .i64 s] w (GetE X t k.l s w) := by
  have HH := Lib.hid h
  have HK := Lib.hid hk
  have HRL := Lib.hid hrl
  have HMT : Hid (t.mb < X ∧ X ≤ w.heap.size) := Lib.hid ⟨hmX, hX⟩
  obtain ⟨n, hn⟩ : ∃ n, k.l.length = n := ⟨_, rfl⟩
  have HN := Lib.hid hn
  rw [hn]
  clear h hk hrl hn hmX hX
  refine (callsIn_wide (n := 9)).1 ?_
  refine callsIn_of_wp_marks Tryz.func23 rfl trivial ?_ rfl
  simp only [Tryz.ntmps23, List.size_toArray, List.length_cons, List.length_nil, Nat.reduceAdd, Nat.reduceSub, Array.replicate_succ, Array.replicate_zero, List.push_toArray, List.append_toArray, List.nil_append, List.cons_append]
  gi_wp2_with (refine ⟨trivial, ?_⟩; gi_at_call 44; refine (callsIn_wide.2 (from_any _ _ _ _ _ _ _ _ _ _)).mono ?_; rintro e w' ⟨rfl, rfl⟩)
  obtain ⟨hq, hs, hb⟩ := allocs_get [.cells #[.slice k.a n k.c] 42, .cells #[.slice none 0 0, .int .i64 0, .bool false, .slice none 0 0] 48, .cells #[.bool false] 4, .cells #[.int .i64 0] 30, .cells #[.pointer (some ⟨t.b, 0, none⟩)] 37, .cells #[.slice k.a n k.c, .int .i64 s, .bool false, .slice none 0 0] 48] w
  have q0 := hq 0 _ rfl
  have q1 := hq 1 _ rfl
  have q2 := hq 2 _ rfl
  have q3 := hq 3 _ rfl
  have q4 := hq 4 _ rfl
  have q5 := hq 5 _ rfl
  simp only [List.foldl_cons, List.foldl_nil, List.length_cons, List.length_nil, Nat.reduceAdd, Nat.add_zero] at hs hb q0 q1 q2 q3 q4 q5
  clear hq
  obtain ⟨W0, hW0⟩ : ∃ W0, ((((((w.alloc (.cells #[.slice k.a n k.c] 42)).alloc (.cells #[.slice none 0 0, .int .i64 0, .bool false, .slice none 0 0] 48)).alloc (.cells #[.bool false] 4)).alloc (.cells #[.int .i64 0] 30)).alloc (.cells #[.pointer (some ⟨t.b, 0, none⟩)] 37)).alloc (.cells #[.slice k.a n k.c, .int .i64 s, .bool false, .slice none 0 0] 48)) = W0 := ⟨_, rfl⟩
  rw [hW0] at q0 q1 q2 q3 q4 q5 hs hb ⊢
  clear hW0
  obtain ⟨H, hH⟩ : ∃ H, w.heap.size = H := ⟨_, rfl⟩
  have hI0 : IG X H w t k s (0, W0) W0 := by
    rw [hH] at q0 q1 q2 q3 q4 q5
    refine ⟨rfl, ⟨Tw.of_below hb, ?_, ⟨q1, q2, q3⟩, q4, ?_⟩, (HH.out.turn (S' := ClG X H W0) (fun g o ho hn => ⟨ho, fun q => hn ⟨q.1, (Array.getElem?_eq_some_iff.1 ho).1⟩⟩) (fun q => by have := HMT.out; omega)).kept hb⟩
    · rw [q0, ← HN.out]
      rfl
    · rw [q5, ← HN.out]
      rfl
  rw [hH] at hs HMT ⊢
  have hOI : OwnAt (H + 6) (IG X H w t k s) := OwnAt.ig (by omega) HMT.out
  have hOX : OwnAt (H + 6) (XG X H w t k s) := OwnAt.xg (by omega) HMT.out
  rw [← hs] at hOI hOX
  clear q0 q1 q2 q3 q4 q5 hb
  refine range_toldK (σ := Nat × World) (gf := 70) (lb := #[.pointer (some ⟨H + 4, 0, none⟩), .pointer (some ⟨H + 5, 0, none⟩)]) rfl (enters_of Tryz.func70 (by kernel_rfl) rfl)
    (IG X H w t k s) (XG X H w t k s) (fun z => if z.1 = 2 then .exit 0 else .ret) hOI hOX (fun _ _ _ _ => False) (OffG t k s) (0, W0) hI0
    (fun z => z.1 = 0 ∧ goP t.tb (keyE k s).rd = ([], false)) (fun z => z.1 ≠ 0) ?size ?on ?off ?iter ?done ?left
  case size =>
    rintro z args z' W (h | ⟨-, -, (⟨y, M, -, rfl, -⟩ | ⟨-, rfl, -⟩)⟩)
    · exact h.elim
    · rfl
    · rfl
  case on =>
    rintro z args z' W h
    exact h.elim
  case iter =>
    intro R R' hR hRs hyes hno hR' hRs' W hi hr
    rw [hs] at hR hRs hno ⊢
    refine (from_iter 7 (H + 6 + 1) (H + 4) (H + 5) t (keyE k s) _ _ _ _ (get_asks hH HK.out HMT.out HH.out.at_.mapAt R R' hR hRs hno) HRL.out W ⟨⟨⟨rfl, hi.2.1⟩, hr⟩, hi.2.2⟩).mono ?_
    rintro e W' ⟨hv, hq, hT⟩
    rcases hq with ⟨q1, q2, ⟨q3, q4⟩, q5⟩ | ⟨s', q1, z, q2, q3, q4⟩
    · exact ⟨hv, .inl ⟨(0, W'), ⟨rfl, Prod.ext (List.eq_nil_of_length_eq_zero q3) q1⟩, ⟨rfl, q4, hT⟩, q5⟩⟩
    · exact ⟨hv, .inr ⟨z, q2, q3, q4⟩⟩
  case done =>
    rintro z W ⟨d1, d2⟩ hi hK
    rw [hs] at hK ⊢
    obtain ⟨⟨p0, p1, p2, p3, p4, p5⟩, f0, f1, f2, f3, f4, f5⟩ := res_cells hi.2.1.res
    obtain ⟨r1, r2⟩ := setG_facts (e := .slice none 0 0) (f := .int .i64 0) (g := .bool false) (h := .slice none 0 0) (u := .bool false) (v := .int .i64 0) hi.2.1.res.1 hi.2.1.res.2.1 hi.2.1.res.2.2
    have hlt := (Array.getElem?_eq_some_iff.1 hK).1
    obtain ⟨e1, e2⟩ := xg_core (V := W) 0 HMT.out hH hi.2.1 (Fr.refl _ _) hi.2.2 (by omega) (Below.refl _ _) r2 (y := zeroEn) (b := false) (er := 0) r1 (.inr ⟨by rw [getP_of d2]; rfl, rfl, rfl, by rw [getP_of d2]; rfl⟩) (Row.nil _ _) (Row.nil _ _) (by omega) (fun e => by cases e)
    have hK2 := e1 _ _ hK (by omega)
    obtain ⟨-, e3, e4, ⟨y, b, er, e5, e6, e7, e8⟩, -⟩ := e2
    have HA := Lib.hid (get_answer (s := s) hH e5 e6 e7 e8 e4 e3 HMT.out hK2)
    have HR := Lib.hid (put_res e5)
    have HK2 := Lib.hid hK2
    clear hi hK r1 r2 e1 e3 e4 e5 e6 e7 e8 hK2
    gi_wp2
    refine ⟨by simp, .inl ⟨_, _, rfl, run_takeDeferred HK2.out, ?_⟩⟩
    refine ⟨_, ?_, HA.out⟩
    obtain ⟨⟨p0, p1, p2, p3, p4, p5⟩, -⟩ := res_cells HR.out
    rw [results_ccc rfl]
    go_simp
  case left =>
    rintro z W hl hi hK
    rw [hs] at hK ⊢
    have hi' := hi
    obtain ⟨e2, e3, e4, ⟨y, b, er, e5, e6, e7, e8⟩, e9⟩ := hi'
    by_cases hz : z.1 = 2
    · rw [if_pos hz]
      obtain ⟨⟨p0, p1, p2, p3, p4, p5⟩, f0, f1, f2, f3, f4, f5⟩ := res_cells e5
      obtain ⟨r1, r2⟩ := setG_facts (e := .slice none 0 0) (f := .int .i64 0) (g := .bool false) (h := .slice none 0 0) (u := .bool false) (v := .int .i64 0) e5.1 e5.2.1 e5.2.2
      have hlt := (Array.getElem?_eq_some_iff.1 hK).1
      obtain ⟨x1, x2⟩ := xg_zero HMT.out hH hi r2 (by omega)
      have hK2 := (r2.block (H + 6) (by omega)).trans hK
      have HA := Lib.hid (get_answer (y := zeroEn) (b := false) (er := 0) (s := s) hH r1 (.inr ⟨by rw [e9 hz], rfl, rfl, by rw [e9 hz]; rfl⟩) (Row.nil _ _) (Row.nil _ _) x1 x2 HMT.out hK2)
      have HR := Lib.hid (put_res (y := zeroEn) (b := false) (er := 0) r1)
      have HK2 := Lib.hid hK2
      clear hi hK r1 r2 e2 e3 e4 e5 e6 e7 e8 e9 hK2 x1 x2 hz hl
      gi_wp2
      refine ⟨by simp, .inl ⟨_, _, rfl, run_takeDeferred HK2.out, ?_⟩⟩
      refine ⟨_, ?_, HA.out⟩
      obtain ⟨⟨p0, p1, p2, p3, p4, p5⟩, -⟩ := res_cells HR.out
      rw [results_ccc rfl]
      go_simp
    · rw [if_neg hz]
      have HA := Lib.hid (get_answer (s := s) hH e5 e6 e7 e8 e4 e3 HMT.out hK)
      obtain ⟨⟨p0, p1, p2, p3, p4, p5⟩, -⟩ := res_cells (put_res e5)
      have HK2 := Lib.hid hK
      clear hK e2 e3 e4 e5 e6 e7 e8 e9 hi hz hl
      gi_wp2
      refine ⟨by simp, .inl ⟨_, _, rfl, run_takeDeferred HK2.out, ?_⟩⟩
      refine ⟨_, ?_, HA.out⟩
      rw [results_ccc rfl]
      go_simp
  case off =>
    rintro z args z' W ⟨h0, h2, hc⟩ hi hsz
    rw [hs] at hsz
    unfold RoundOf
    rw [hs]
    obtain ⟨J, hJ⟩ : ∃ J, (if z'.1 = 2 then Code.exit 0 else .ret) = J := ⟨_, rfl⟩
    rw [hJ]
    have HJ := Lib.hid hJ
    clear hJ
    rcases hc with ⟨y, M, hM, rfl, hE, hF, hz'⟩ | ⟨hM, rfl, hz'⟩
    · obtain ⟨yn, hyn⟩ : ∃ q, y.k.l.length = q := ⟨_, rfl⟩
      obtain ⟨vn, hvn⟩ : ∃ q, y.v.l.length = q := ⟨_, rfl⟩
      rw [En.val_eq, hyn, hvn]
      replace hz' := Lib.hid hz'
      gi_wp2
      refine ⟨Two.below ((Below.refl (H + 8) W).alloc hsz _) (by omega), fun W₂ g2 hl => ?_⟩
      obtain ⟨k2, f2, t2, s2, e2⟩ := ig_round hH HMT.out hi hsz g2 hl
      have y2 : EIn W₂ y := (hE.kept (below_new W _)).abide g2 (fun r e => by injection e with e; subst e; exact hl)
      clear g2 hl
      obtain ⟨E, hEE⟩ : ∃ E, W.heap.size = E := ⟨_, rfl⟩
      rw [hEE] at e2 ⊢
      obtain ⟨c0, c1, c2, c3⟩ : W₂.cell? ⟨E, 0, none⟩ = some (.slice y.k.a yn y.k.c) ∧ W₂.cell? ⟨E, 1, none⟩ = some (.int .i64 y.s) ∧ W₂.cell? ⟨E, 2, none⟩ = some (.bool y.d) ∧ W₂.cell? ⟨E, 3, none⟩ = some (.slice y.v.a vn y.v.c) := by
        refine ⟨?_, ?_, ?_, ?_⟩ <;> simp [World.cell?, e2]
      have cH : W₂.cell? ⟨H, 0, none⟩ = some (.slice k.a n k.c) := by
        have := k2.b0
        simp [World.cell?, this, Sl.val, HN.out]
      have HEQ := Lib.hid (equal_any y.k.a k.a y.k.l k.l yn n y.k.c k.c W₂ (hyn ▸ y2.1) (HN.out ▸ (HK.out.tw k2.tw HH.out.at_.mapAt)))
      have hgd := goP_good (t := t.tb) (e := (keyE k s).rd) (x := y.rd) (j := 0) (by rw [hM]; rfl)
      have HCL := Lib.hid (eclone_any y W₂ y2 (by have := hgd.1.2; unfold En.rd at this; simp only at this; omega) (by have := hgd.2.2.1; unfold En.rd at this; simp only at this; omega))
      rw [En.val_eq, hyn, hvn] at HCL
      have HK2 := Lib.hid k2
      have HF2 := Lib.hid f2
      have HT2 := Lib.hid t2
      have HS2 := Lib.hid s2
      have HP : Hid (getP t.tb k.l s = firstP k.l (y.rd :: M, (goP t.tb (keyE k s).rd).2)) := Lib.hid (getP_of (Prod.ext hM rfl))
      have HZ2 := Lib.hid h2
      clear k2 f2 t2 s2 e2 hyn hvn hgd hE hF y2 hi hM hsz hEE h0 h2 hOI hOX
      by_cases hk : y.k.l = k.l
      · replace hz' := hz'.out
        rw [if_pos hk] at hz'
        have hkd : decide (y.k.l = k.l) = true := by simpa using hk
        rw [hkd] at HEQ
        have HGP : Hid (getP t.tb k.l s = (some y.rd, false)) := Lib.hid (by rw [HP.out]; exact if_pos hk)
        have HRES : Hid (∀ W3, Below W₂.heap.size W₂ W3 → ResG H zeroEn false 0 W3) := Lib.hid (fun W3 b3 => HK2.out.res.of (fun g o h1 h2 ho => obj_kept ho b3 (Nat.le_refl _)))
        have HZ1 := Lib.hid hz'
        clear hk hkd hz'
        gi_wp2_with (first
          | (refine ⟨trivial, ?_⟩; gi_at_call 45; refine (CallsIn.inRound _ (callsIn_wide.2 HEQ.out)).mono ?_; rintro e w' ⟨rfl, rfl⟩; clear HEQ)
          | (refine ⟨trivial, ?_⟩; gi_at_call 46; refine (CallsIn.inRound _ (callsIn_wide.2 HCL.out)).mono ?_; rintro e W3 ⟨y', hrd, rfl, r1, r2, b3⟩; have HRD := Lib.hid hrd; have R1 := Lib.hid r1; have R2 := Lib.hid r2; have B3 := Lib.hid b3; obtain ⟨⟨p0, p1, p2, p3, p4, p5⟩, f0, f1, f2', f3, f4, f5⟩ := res_cells (HRES.out W3 b3); rw [En.val_eq]; clear hrd r1 r2 b3 HCL c0 c1 c2 c3 cH))
        have hR3 := HRES.out W3 B3.out
        obtain ⟨s1, s2⟩ := setG_facts (e := .slice y'.k.a y'.k.l.length y'.k.c) (f := .int .i64 y'.s) (g := .bool y'.d) (h := .slice y'.v.a y'.v.l.length y'.v.c) (u := .bool true) (v := .int .i64 0) hR3.1 hR3.2.1 hR3.2.2
        obtain ⟨x1, x2⟩ := xg_end z'.1 HMT.out hH HK2.out HF2.out HT2.out HS2.out B3.out s2 (y := y') (b := true) (er := 0) s1 (.inl ⟨by rw [HGP.out, HRD.out], rfl, rfl⟩) R1.out R2.out (fun e => by rw [HZ1.out] at e; cases e)
        refine ⟨by rw [← HJ.out, HZ1.out]; rfl, x1, ?_⟩
        rw [← HZ2.out] at x2
        exact x2
      · replace hz' := hz'.out
        rw [if_neg hk] at hz'
        have hkd : decide (y.k.l = k.l) = false := by simpa using hk
        rw [hkd] at HEQ
        have HGP : Hid (getP t.tb k.l s = (none, false)) := Lib.hid (by rw [HP.out]; exact if_neg hk)
        have HZ1 := Lib.hid hz'
        clear hk hkd hz'
        gi_wp2_with (refine ⟨trivial, ?_⟩; gi_at_call 45; refine (CallsIn.inRound _ (callsIn_wide.2 HEQ.out)).mono ?_; rintro e w' ⟨rfl, rfl⟩; clear HEQ)
        obtain ⟨x1, x2⟩ := xg_end z'.1 HMT.out hH HK2.out HF2.out HT2.out HS2.out (Below.refl _ _) (Kp.refl _ _) (y := zeroEn) (b := false) (er := 0) HK2.out.res (.inr ⟨by rw [HGP.out], rfl, rfl, by rw [HGP.out]; rfl⟩) (Row.nil _ _) (Row.nil _ _) (fun _ => HGP.out)
        refine ⟨by rw [← HJ.out, HZ1.out]; rfl, x1, ?_⟩
        rw [← HZ2.out] at x2
        exact x2
    · gi_wp2
      refine ⟨Two.below ((Below.refl (H + 8) W).alloc hsz _) (by omega), fun W₂ g2 hl => ?_⟩
      obtain ⟨k2, f2, t2, s2, -⟩ := ig_round hH HMT.out hi hsz g2 hl
      clear g2 hl
      obtain ⟨⟨p0, p1, p2, p3, p4, p5⟩, f0, f1, f2', f3, f4, f5⟩ := res_cells k2.res
      obtain ⟨r1, r2⟩ := setG_facts (e := .slice none 0 0) (f := .int .i64 0) (g := .bool false) (h := .slice none 0 0) (u := .bool false) (v := .int .i64 11) k2.res.1 k2.res.2.1 k2.res.2.2
      have HX := Lib.hid (xg_end z'.1 HMT.out hH k2 f2 t2 s2 (Below.refl _ _) r2 (y := zeroEn) (b := false) (er := 11) r1 (.inr ⟨by rw [getP_of hM]; rfl, rfl, rfl, by rw [getP_of hM]; rfl⟩) (Row.nil _ _) (Row.nil _ _) (fun e => by omega))
      clear k2 f2 t2 s2 r1 r2 hi
      gi_wp2
      obtain ⟨x1, x2⟩ := HX.out
      refine ⟨by rw [← HJ.out, hz']; rfl, x1, ?_⟩
      rw [← h2] at x2
      exact x2
end Go.Proofs.YtmgggddnfeojmaaGreat.GetX
namespace Go.Proofs.YtmgggddnfeojmaaGreat
open Go.RowKit
open Go.Maps
theorem short_lone {s : ByteArray} {F : List Int} {y : Int} (h : F.length ≤ 1099511627776) : ∀ x ∈ (loneV s F y).fs, x.2.1.length ≤ 1099511627776 := fun x hx => by
  rw [show (loneV s F y).fs = [(s, F, y)] from rfl, List.mem_singleton] at hx
  subst hx
  exact h
end Go.Proofs.YtmgggddnfeojmaaGreat
